/- What the document's own answers for layer 1 are. -/
import Derived.Test.YtncidpckokclbaaDoorField
namespace Go.Proofs.YtncidpckokclbaaDoor
open Go.RowKit



set_option maxHeartbeats 400000 in
theorem rAdd (p a b r : Int) (w : World) (hp : rightB p = true) (ha0 : 0 ≤ a) (ha : a < p) (hb0 : 0 ≤ b) (hb : b < p) (h : (a + b) % p = r) :
    Calls Tryd.prog 55 #[.int .u64 p, .int .u64 a, .int .u64 b] w fun e w' => e = .returned (.int .u64 r) ∧ w = w' := by
  have hp2 := rightB_true hp
  have hp3 : p ≠ 0 := by omega
  have H := hid h
  clear h hp
  go_enter Tryd.func55, Tryd.ntmps55
  go_wp2_with fail
  go_ret
  exact ⟨ret_int H.out, rfl⟩

theorem half_even {p a b h : Int} (hh : a * (b / 2) % p = h) (hb : b % 2 = 0) : (h + h) % p = a * b % p := by
  rw [← hh, ma_l, ma_r]
  congr 1
  have : b = b / 2 * 2 := by omega
  generalize b / 2 = c at *
  subst this; grind
theorem half_odd {p a b h g : Int} (hh : a * (b / 2) % p = h) (hg : (h + h) % p = g) (hb : b % 2 = 1) : (g + a) % p = a * b % p := by
  rw [← hg, ← hh, ma_l]
  have : b = b / 2 * 2 + 1 := by omega
  generalize b / 2 = c at *
  rw [mod_eq_iff]
  have e := Int.emod_def (a * c) p
  refine ⟨-2 * (a * c / p), ?_⟩
  rw [e, this]; grind
set_option maxHeartbeats 1000000 in
theorem rMul_all (n : Nat) : ∀ (p a b : Int) (w : World), b.toNat ≤ n → rightB p = true → 0 ≤ a → a < p → 0 ≤ b → b ≤ 18446744073709551615 →
    Calls Tryd.prog 47 #[.int .u64 p, .int .u64 a, .int .u64 b] w fun e w' => e = .returned (.int .u64 (a * b % p)) ∧ w = w' := by
  induction n with
  | zero =>
    intro p a b w hn hp ha0 ha hb0 hb
    obtain rfl : b = 0 := by omega
    go_enter Tryd.func47, Tryd.ntmps47
    go_wp2_with fail
    go_ret
    exact ⟨ret_int (by simp), rfl⟩
  | succ n ih =>
    intro p a b w hn hp ha0 ha hb0 hb
    by_cases h0 : b = 0
    · subst h0
      go_enter Tryd.func47, Tryd.ntmps47
      go_wp2_with fail
      go_ret
      exact ⟨ret_int (by simp), rfl⟩
    · have hp2 := rightB_true hp
      have t0 : (b == 0) = false := by simpa using h0
      have Ih := hid ih; clear ih
      obtain ⟨h, eh, h1, h2⟩ := name_mod (a * (b / 2)) hp2.1
      obtain ⟨g, eg, g1, g2⟩ := name_mod (h + h) hp2.1
      by_cases hb2 : b % 2 = 1
      · have t1 : (b % 2 == 1) = true := by simpa using hb2
        have E := hid (half_odd eh eg hb2)
        obtain ⟨r, er, r1, r2⟩ := name_mod (g + a) hp2.1
        have Er := hid er; have Eh := hid eh; have Eg := hid eg; have Hp := hid hp
        rw [er] at E
        clear hp eh eg er hb2 h0
        go_enter Tryd.func47, Tryd.ntmps47
        go_wp2_with fail
        refine (Ih.out p a (b / 2) _ (by omega) Hp.out ha0 ha (by omega) (by omega)).mono ?_
        rw [Eh.out]; rintro _ _ ⟨rfl, rfl⟩
        go_wp2_with fail
        refine (rAdd p h h g _ Hp.out h1 h2 h1 h2 Eg.out).mono ?_; rintro _ _ ⟨rfl, rfl⟩
        go_wp2_with fail
        refine (rAdd p g a r _ Hp.out g1 g2 ha0 ha Er.out).mono ?_; rintro _ _ ⟨rfl, rfl⟩
        go_wp2_with fail
        go_ret
        exact ⟨ret_int E.out, rfl⟩
      · have t1 : (b % 2 == 1) = false := by simpa using hb2
        have E := hid (half_even eh (by omega))
        rw [eg] at E
        have Eh := hid eh; have Eg := hid eg; have Hp := hid hp
        clear hp eh eg hb2 h0
        go_enter Tryd.func47, Tryd.ntmps47
        go_wp2_with fail
        refine (Ih.out p a (b / 2) _ (by omega) Hp.out ha0 ha (by omega) (by omega)).mono ?_
        rw [Eh.out]; rintro _ _ ⟨rfl, rfl⟩
        go_wp2_with fail
        refine (rAdd p h h g _ Hp.out h1 h2 h1 h2 Eg.out).mono ?_; rintro _ _ ⟨rfl, rfl⟩
        go_wp2_with fail
        go_ret
        exact ⟨ret_int E.out, rfl⟩
theorem rMul (p a b r : Int) (w : World) (hp : rightB p = true) (ha0 : 0 ≤ a) (ha : a < p) (hb0 : 0 ≤ b) (hb : b ≤ 18446744073709551615) (h : a * b % p = r) :
    Calls Tryd.prog 47 #[.int .u64 p, .int .u64 a, .int .u64 b] w fun e w' => e = .returned (.int .u64 r) ∧ w = w' :=
  h ▸ rMul_all b.toNat p a b w (Nat.le_refl _) hp ha0 ha hb0 hb

theorem pow_even {p a n h : Int} (h0 : 0 ≤ n) (hh : mpow p a (n / 2) = h) (hn : n % 2 = 0) : h * h % p = mpow p a n := by
  unfold mpow at *
  rw [← hh, mm_l, mm_r, ← Int.pow_add]
  congr 2; omega
theorem pow_odd {p a n h g : Int} (h0 : 0 ≤ n) (hh : mpow p a (n / 2) = h) (hg : h * h % p = g) (hn : n % 2 = 1) : g * a % p = mpow p a n := by
  unfold mpow at *
  rw [← hg, mm_l, ← hh, Int.mul_assoc, mm_l, Int.mul_comm _ a, ← Int.mul_assoc, mm_r, Int.mul_right_comm, ← Int.pow_add, ← Int.pow_succ]
  congr 2; omega
set_option maxHeartbeats 1000000 in
theorem rPow_all (m : Nat) : ∀ (p a n : Int) (w : World), n.toNat ≤ m → rightB p = true → 0 ≤ a → a < p → 0 ≤ n → n ≤ 18446744073709551615 →
    Calls Tryd.prog 36 #[.int .u64 p, .int .u64 a, .int .u64 n] w fun e w' => e = .returned (.int .u64 (mpow p a n)) ∧ w = w' := by
  induction m with
  | zero =>
    intro p a n w hm hp ha0 ha hn0 hn
    obtain rfl : n = 0 := by omega
    have e := hid (mpow_zero a (rightB_true hp).1)
    go_enter Tryd.func36, Tryd.ntmps36
    go_wp2_with fail
    go_ret
    exact ⟨ret_int e.out.symm, rfl⟩
  | succ m ih =>
    intro p a n w hm hp ha0 ha hn0 hn
    by_cases h0 : n = 0
    · subst h0
      have e := hid (mpow_zero a (rightB_true hp).1)
      go_enter Tryd.func36, Tryd.ntmps36
      go_wp2_with fail
      go_ret
      exact ⟨ret_int e.out.symm, rfl⟩
    · have hp2 := rightB_true hp
      have t0 : (n == 0) = false := by simpa using h0
      have Ih := hid ih; clear ih
      obtain ⟨h, eh⟩ : ∃ h, mpow p a (n / 2) = h := ⟨_, rfl⟩
      have hr := mpow_range a (n / 2) hp2.1
      rw [eh] at hr
      obtain ⟨g, eg, g1, g2⟩ := name_mod (h * h) hp2.1
      by_cases hb2 : n % 2 = 1
      · have t1 : (n % 2 == 1) = true := by simpa using hb2
        have E := hid (pow_odd hn0 eh eg hb2)
        obtain ⟨r, er, r1, r2⟩ := name_mod (g * a) hp2.1
        have Er := hid er; have Eh := hid eh; have Eg := hid eg; have Hp := hid hp
        rw [er] at E
        clear hp eh eg er hb2 h0
        go_enter Tryd.func36, Tryd.ntmps36
        go_wp2_with fail
        refine (Ih.out p a (n / 2) _ (by omega) Hp.out ha0 ha (by omega) (by omega)).mono ?_
        rw [Eh.out]; rintro _ _ ⟨rfl, rfl⟩
        go_wp2_with fail
        refine (rMul p h h g _ Hp.out hr.1 hr.2 hr.1 (by omega) Eg.out).mono ?_; rintro _ _ ⟨rfl, rfl⟩
        go_wp2_with fail
        refine (rMul p g a r _ Hp.out g1 g2 ha0 (by omega) Er.out).mono ?_; rintro _ _ ⟨rfl, rfl⟩
        go_wp2_with fail
        go_ret
        exact ⟨ret_int E.out, rfl⟩
      · have t1 : (n % 2 == 1) = false := by simpa using hb2
        have E := hid (pow_even hn0 eh (by omega))
        rw [eg] at E
        have Eh := hid eh; have Eg := hid eg; have Hp := hid hp
        clear hp eh eg hb2 h0
        go_enter Tryd.func36, Tryd.ntmps36
        go_wp2_with fail
        refine (Ih.out p a (n / 2) _ (by omega) Hp.out ha0 ha (by omega) (by omega)).mono ?_
        rw [Eh.out]; rintro _ _ ⟨rfl, rfl⟩
        go_wp2_with fail
        refine (rMul p h h g _ Hp.out hr.1 hr.2 hr.1 (by omega) Eg.out).mono ?_; rintro _ _ ⟨rfl, rfl⟩
        go_wp2_with fail
        go_ret
        exact ⟨ret_int E.out, rfl⟩
theorem rPow (p a n r : Int) (w : World) (hp : rightB p = true) (ha0 : 0 ≤ a) (ha : a < p) (hn0 : 0 ≤ n) (hn : n ≤ 18446744073709551615) (h : mpow p a n = r) :
    Calls Tryd.prog 36 #[.int .u64 p, .int .u64 a, .int .u64 n] w fun e w' => e = .returned (.int .u64 r) ∧ w = w' :=
  h ▸ rPow_all n.toNat p a n w (Nat.le_refl _) hp ha0 ha hn0 hn

set_option maxHeartbeats 1000000 in
theorem rGcd (a b : Int) (w : World) (ha0 : 0 ≤ a) (ha : a ≤ 18446744073709551615) (hb0 : 0 ≤ b) (hb : b ≤ 18446744073709551615) :
    Calls Tryd.prog 25 #[.int .u64 a, .int .u64 b] w (Ret (.int .u64 (Int.gcd a b)) w) := by
  generalize hg : ((Int.gcd a b : Nat) : Int) = G
  have HG := hid hg; clear hg
  go_enter Tryd.func25, Tryd.ntmps25
  go_wp2_with fail
  go_loopw [0, 1] (fun u v wr => ∃ x y : Int, u = .int .u64 x ∧ v = .int .u64 y ∧ 0 ≤ x ∧ x ≤ 18446744073709551615 ∧ 0 ≤ y ∧ y ≤ 18446744073709551615 ∧ ((Int.gcd x y : Nat) : Int) = G ∧ Ext w wr) (fun _ v _ => (intOf v).toNat)
  case atStart => exact ⟨a, b, rfl, rfl, ha0, ha, hb0, hb, HG.out, (by repeat (first | exact Ext.refl _ | assumption | refine Ext.drew ?_ | refine Ext.drewN ?_ _ | refine Ext.alloc ?_ _ | refine Ext.trans ?_ (by assumption)))⟩
  case round =>
    obtain ⟨x, y, rfl, rfl, hx0, hx, hy0, hy, hg, hw⟩ := hrel
    by_cases h0 : 0 < y
    · have hs := gcd_step hx0 hy0
      have hm := Int.emod_nonneg x (show y ≠ 0 by omega)
      have hm2 := Int.emod_lt_of_pos x h0
      have hy1 : y ≠ 0 := by omega
      rw [← hs] at hg
      have Hg := hid hg; clear hg hs
      go_wp2_with fail
      go_quiet (fail)
      go_wp2_with fail
      go_roundw
      case rel => exact ⟨_, _, rfl, rfl, hy0, hy, hm, by omega, Hg.out, (by repeat (first | exact Ext.refl _ | assumption | refine Ext.drew ?_ | refine Ext.drewN ?_ _ | refine Ext.alloc ?_ _ | refine Ext.trans ?_ (by assumption)))⟩
      case measure => simp [intOf]; omega
    · obtain rfl : y = 0 := by omega
      rw [Int.gcd_zero_right] at hg
      have hg' : x = G := by omega
      have Hg := hid hg'; clear hg hg'
      go_wp2_with fail
      go_ret
      exact ⟨ret_int Hg.out, (by repeat (first | exact Ext.refl _ | assumption | refine Ext.drew ?_ | refine Ext.drewN ?_ _ | refine Ext.alloc ?_ _ | refine Ext.trans ?_ (by assumption)))⟩

theorem sub_mul_le (l n : Int) (hn : 0 < n) (hl : 0 ≤ l) : 0 ≤ l / n * n ∧ l / n * n ≤ l ∧ l - l / n * n = l % n := by
  have h1 := Int.ediv_mul_add_emod l n
  have h2 := Int.emod_nonneg l (show n ≠ 0 by omega)
  have h3 := Int.mul_nonneg (Int.ediv_nonneg hl (by omega) : 0 ≤ l / n) (show 0 ≤ n by omega)
  omega
theorem rGcd_as (a b g : Int) (w : World) (ha0 : 0 ≤ a) (ha : a ≤ 18446744073709551615) (hb0 : 0 ≤ b) (hb : b ≤ 18446744073709551615) (h : ((Int.gcd a b : Nat) : Int) = g) :
    Calls Tryd.prog 25 #[.int .u64 a, .int .u64 b] w (Ret (.int .u64 g) w) := h ▸ rGcd a b w ha0 ha hb0 hb
theorem unitB_gcd {p a : Int} (h : unitB p a = true) : ((Int.gcd p a : Nat) : Int) = 1 := by
  have : Int.gcd p a = 1 := by simpa [unitB] using h
  omega
theorem unitB_gcd' {p a : Int} (h : unitB p a = false) : (((Int.gcd p a : Nat) : Int) == 1) = false := by
  have : ¬ Int.gcd p a = 1 := by simpa [unitB] using h
  simp; omega

end Go.Proofs.YtncidpckokclbaaDoor
