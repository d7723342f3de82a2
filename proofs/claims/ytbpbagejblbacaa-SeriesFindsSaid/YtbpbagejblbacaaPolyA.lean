/- What package poly's small functions answer: last, trimmed, the ring's, the last one's inverse, Right. -/
import Derived.Test.YtbpbagejblbacaaPolM
import Derived.Test.YtbpbagejblbacaaField
namespace Go.Proofs.Ytbpbagejblbacaa
open Go.RowKit

set_option maxHeartbeats 400000 in
theorem last_any (v : Value) (xs : List Int) (w : World) (hv : Ints .u64 w v xs) (h0 : 0 < xs.length) :
    Calls Try.prog 44 #[v] w fun e w' => e = .returned (.int .u64 (lead xs)) ∧ w = w' := by
  obtain ⟨a, cap, rfl, hc1, hc2, hc⟩ := hv
  obtain ⟨b, off, rfl, hb, hcell⟩ := hc h0
  have g := hcell (xs.length - 1) (by omega)
  obtain ⟨r, hr⟩ : ∃ r, lead xs = r := ⟨_, rfl⟩
  rw [show xs.getD (xs.length - 1) 0 = lead xs from rfl, hr] at g
  have Hr := hid hr
  clear hcell hr
  obtain ⟨n, hn⟩ : ∃ n, xs.length = n + 1 := ⟨xs.length - 1, by omega⟩
  rw [hn] at g hc1 ⊢
  rw [show n + 1 - 1 = n by omega] at g
  clear hc h0
  rw [Hr.out]
  clear Hr hn
  go_enter Try.func44, Try.ntmps44
  go_wp2_with fail
  go_ret
  exact ⟨rfl, rfl⟩

/-- how many are left without the noughts at the end -/
def trimN (xs : List Int) : Nat → Nat
  | 0 => 0
  | n + 1 => if xs.getD n 0 = 0 then trimN xs n else n + 1
theorem trimN_le (xs : List Int) : ∀ n, trimN xs n ≤ n
  | 0 => Nat.le_refl _
  | n + 1 => by
    have := trimN_le xs n
    unfold trimN
    split <;> omega
theorem trimN_zero (xs : List Int) : ∀ n j, trimN xs n ≤ j → j < n → xs.getD j 0 = 0
  | 0, j, _, h => by omega
  | n + 1, j, h1, h2 => by
    unfold trimN at h1
    split at h1
    · rename_i e
      by_cases hj : j = n
      · rw [hj]; exact e
      · exact trimN_zero xs n j h1 (by omega)
    · omega
theorem trimN_top (xs : List Int) : ∀ n, 0 < trimN xs n → xs.getD (trimN xs n - 1) 0 ≠ 0
  | 0, h => by simp [trimN] at h
  | n + 1, h => by
    unfold trimN at h ⊢
    split
    · rename_i e
      rw [if_pos e] at h
      exact trimN_top xs n h
    · rename_i e
      simpa using e
/-- without the noughts at the end -/
def trimL (xs : List Int) : List Int := xs.take (trimN xs xs.length)
theorem trimL_pol {p : Int} {xs : List Int} (h : Rng p xs) : Pol p (trimL xs) ∧ pol p (trimL xs) = pol p xs :=
  Pol.trim h (trimN_le _ _) (fun j hj => by
    rcases Nat.lt_or_ge j xs.length with h1 | h1
    · exact trimN_zero xs _ j hj h1
    · exact getD_over h1) (trimN_top xs _)
theorem lead_take (xs : List Int) {n : Nat} (h : n < xs.length) : lead (xs.take (n + 1)) = xs.getD n 0 := by
  unfold lead
  rw [show (xs.take (n + 1)).length = n + 1 by simp; omega]
  simp [List.getD]

set_option maxHeartbeats 400000 in
theorem trimmed_any (a : Option Addr) (cap : Nat) (xs : List Int) (w : World) (hv : Ints .u64 w (.slice a xs.length cap) xs) :
    Calls Try.prog 39 #[.slice a xs.length cap] w fun e w' => e = .returned (.slice a (trimN xs xs.length) cap) ∧ w = w' := by
  obtain ⟨T, hT⟩ : ∃ T, trimN xs xs.length = T := ⟨_, rfl⟩
  obtain ⟨L, hL⟩ : ∃ L, xs.length = L := ⟨_, rfl⟩
  have hcap : L ≤ cap ∧ cap ≤ 9223372036854775807 := by
    obtain ⟨a', cap', e, h1, h2, h3⟩ := hv
    injection e with e1 e2 e3
    omega
  rw [hL] at hv hT ⊢
  rw [hT]
  have HT := hid hT
  have Hv := hid hv
  have HL := hid hL
  clear hT hv hL
  go_enter Try.func39, Try.ntmps39
  go_wp2_with fail
  go_loop [0] (fun v => ∃ n : Nat, v = .slice a n cap ∧ n ≤ L ∧ Hid (trimN xs n = T)) (fun v => match v with | .slice _ n _ => n | _ => 0)
  case atStart => exact ⟨L, rfl, by omega, HT⟩
  case round =>
    obtain ⟨n, rfl, hn, hr⟩ := hrel
    cases n with
    | zero =>
      have e := hr.out
      have E := hid (show T = 0 by rw [← e]; rfl)
      clear e
      go_wp2_with fail
      go_ret
      exact ⟨by rw [E.out]; rfl, rfl⟩
    | succ n =>
      have hl := last_any (.slice a (n + 1) cap) (xs.take (n + 1)) w (by
        have := Hv.out.take' (n + 1) (by rw [HL.out]; omega)
        exact this) (by simp; rw [HL.out]; omega)
      rw [lead_take xs (by rw [HL.out]; omega)] at hl
      have e := hr.out
      unfold trimN at e
      obtain ⟨x, hx⟩ : ∃ x, xs.getD n 0 = x := ⟨_, rfl⟩
      rw [hx] at hl e
      have Hl := hid hl
      clear hl hr hx
      have h63 : (n : Int) + 1 ≤ (cap : Int) := by omega
      by_cases h0 : x = 0
      · rw [if_pos h0] at e
        have b0 : (x == 0) = true := by simpa using h0
        have E := hid e
        clear e h0
        go_wp2_with (go_at_call 44; refine Hl.out.mono ?_; rintro _ _ ⟨rfl, rfl⟩)
        go_round
        case rel => exact ⟨n, by go_num, by omega, E⟩
        case measure => simp
      · rw [if_neg h0] at e
        have b0 : (x == 0) = false := by simpa using h0
        have E := hid e
        clear e h0
        go_wp2_with (go_at_call 44; refine Hl.out.mono ?_; rintro _ _ ⟨rfl, rfl⟩)
        go_ret
        exact ⟨by rw [← E.out]; rfl, rfl⟩

/-! ### The ring's sums and products -/
set_option maxHeartbeats 400000 in
theorem minus_any (p a b : Int) (w : World) (hp : rightB p = true) (ha0 : 0 ≤ a) (ha : a < p) (hb0 : 0 ≤ b) (hb : b < p) :
    Calls Try.prog 45 #[.int .u64 p, .int .u64 a, .int .u64 b] w (Ret (.int .u64 ((a - b) % p)) w) := by
  have Hp := hid hp
  clear hp
  go_enter Try.func45, Try.ntmps45
  go_wp2_with (go_at_call 28; refine (sub_yes p a b _ Hp.out ha0 ha hb0 hb).mono ?_; rintro _ w1 ⟨rfl, h1⟩)
  go_ret
  exact ⟨rfl, h1⟩
set_option maxHeartbeats 400000 in
theorem rtimes_any (p a b : Int) (w : World) (hp : rightB p = true) (ha0 : 0 ≤ a) (ha : a < p) (hb0 : 0 ≤ b) (hb : b < p) :
    Calls Try.prog 43 #[.int .u64 p, .int .u64 a, .int .u64 b] w (Ret (.int .u64 (a * b % p)) w) := by
  have Hp := hid hp
  clear hp
  go_enter Try.func43, Try.ntmps43
  go_wp2_with (go_at_call 25; refine (mul_yes p a b _ Hp.out ha0 ha hb0 hb).mono ?_; rintro _ w1 ⟨rfl, h1⟩)
  go_ret
  exact ⟨rfl, h1⟩

/-! ### The last one's inverse -/
set_option maxHeartbeats 400000 in
theorem invLast_yes (p : Int) (v : Value) (xs : List Int) (w : World) (hp : rightB p = true) (hv : Ints .u64 w v xs) (h0 : 0 < xs.length) (hr : 0 ≤ lead xs ∧ lead xs < p) (hu : unitB p (lead xs) = true) :
    Calls Try.prog 41 #[.int .u64 p, v] w (Ret (.tuple #[.int .u64 (minv p (lead xs)), .int .i64 0]) w) := by
  have hl := last_any v xs w hv h0
  obtain ⟨x, hx⟩ : ∃ x, lead xs = x := ⟨_, rfl⟩
  rw [hx] at hl hr hu ⊢
  have Hp := hid hp; have Hu := hid hu; have Hl := hid hl
  obtain ⟨a, cap, rfl, hc1, hc2, hc⟩ := hv
  have hne : ((xs.length : Int) == 0) = false := by rw [beq_eq_false_iff_ne]; omega
  clear hp hu hl hx hc
  go_enter Try.func41, Try.ntmps41
  go_wp2_with (first | (go_at_call 44; refine Hl.out.mono ?_; rintro _ _ ⟨rfl, rfl⟩) | (go_at_call 50; refine (inv_yes p x _ Hp.out hr.1 hr.2 Hu.out).mono ?_; rintro _ w1 ⟨rfl, h1⟩))
  go_ret2
  exact ⟨rfl, h1⟩
set_option maxHeartbeats 400000 in
theorem invLast_nil (p : Int) (v : Value) (w : World) (hv : Ints .u64 w v []) :
    Calls Try.prog 41 #[.int .u64 p, v] w (Ret (.tuple #[.int .u64 0, .int .i64 5]) w) := by
  obtain ⟨a, cap, rfl, hc1, hc2, hc⟩ := hv
  clear hc
  go_enter Try.func41, Try.ntmps41
  go_wp2_with fail
  go_ret2
  exact ⟨rfl, (by repeat (first | exact Ext.refl _ | assumption | refine Ext.drew ?_ | refine Ext.drewN ?_ _ | refine Ext.alloc ?_ _ | refine Ext.trans ?_ (by assumption)))⟩

/-! ### Right -/
/-- is it a polynomial that may be? -/
def rightPB (p : Int) (xs : List Int) : Bool := decide (xs.length ≤ 512) && hasB p xs && (decide (xs.length = 0) || !decide (lead xs = 0))
theorem rightPB_iff {p : Int} {xs : List Int} (hx : U64s xs) : rightPB p xs = true ↔ rightB p = true ∧ Pol p xs ∧ xs.length ≤ 512 := by
  unfold rightPB
  constructor
  · intro h
    simp only [Bool.and_eq_true, decide_eq_true_eq, Bool.or_eq_true, Bool.not_eq_true', decide_eq_false_iff_not] at h
    obtain ⟨⟨h1, h2⟩, h3⟩ := h
    obtain ⟨h4, h5⟩ := hasB_true h2
    refine ⟨h4, ⟨fun x hx' => ⟨(hx x hx').1, h5 x hx'⟩, fun h0 => ?_⟩, h1⟩
    rcases h3 with h3 | h3
    · omega
    · exact h3
  · rintro ⟨h1, h2, h3⟩
    simp only [Bool.and_eq_true, decide_eq_true_eq, Bool.or_eq_true, Bool.not_eq_true', decide_eq_false_iff_not]
    refine ⟨⟨h3, h2.rng.has h1⟩, ?_⟩
    by_cases h0 : xs.length = 0
    · exact .inl h0
    · exact .inr (h2.top (by omega))
set_option maxHeartbeats 400000 in
theorem polRight_any (p : Int) (v : Value) (xs : List Int) (w : World) (h0 : 0 ≤ p) (h1 : p ≤ 18446744073709551615) (hv : Ints .u64 w v xs) (hx : U64s xs) :
    Calls Try.prog 40 #[.int .u64 p, v] w fun e w' => e = .returned (.bool (rightPB p xs)) ∧ w = w' := by
  have Hv := hid hv; have Hx := hid hx
  obtain ⟨R, hR⟩ : ∃ R, rightPB p xs = R := ⟨_, rfl⟩
  rw [hR]
  unfold rightPB at hR
  obtain ⟨a, cap, rfl, hc1, hc2, hc⟩ := hv
  obtain ⟨L, hL⟩ : ∃ L, xs.length = L := ⟨_, rfl⟩
  have HL := hid hL
  rw [hL] at hc1 hR Hv ⊢
  clear hc hx hL
  have hh := has_any p (.slice a L cap) xs w h0 h1 Hv.out Hx.out
  obtain ⟨B, hB⟩ : ∃ B, hasB p xs = B := ⟨_, rfl⟩
  rw [hB] at hR hh
  have Hh := hid hh
  clear hB hh
  by_cases h5 : L ≤ 512
  · rw [decide_eq_true h5, Bool.true_and] at hR
    cases B with
    | false =>
      rw [Bool.false_and] at hR
      subst hR
      go_enter Try.func40, Try.ntmps40
      go_wp2_with (go_at_call 22; refine Hh.out.mono ?_; rintro _ _ ⟨rfl, rfl⟩)
      go_ret
      exact ⟨rfl, rfl⟩
    | true =>
      rw [Bool.true_and] at hR
      by_cases h6 : L = 0
      · rw [decide_eq_true h6, Bool.true_or] at hR
        subst hR
        have b1 : ((L : Int) == 0) = true := by simp [h6]
        clear h6
        go_enter Try.func40, Try.ntmps40
        go_wp2_with (go_at_call 22; refine Hh.out.mono ?_; rintro _ _ ⟨rfl, rfl⟩)
        go_ret
        exact ⟨rfl, rfl⟩
      · rw [decide_eq_false h6, Bool.false_or] at hR
        have hl := last_any (.slice a L cap) xs w Hv.out (by rw [HL.out]; omega)
        obtain ⟨x, hx⟩ : ∃ x, lead xs = x := ⟨_, rfl⟩
        rw [hx] at hl hR
        have Hl := hid hl
        have b1 : ((L : Int) == 0) = false := by simp; omega
        clear hl hx h6
        have b2 : (x != 0) = R := by rw [← hR]; by_cases e : x = 0 <;> simp [e]
        clear hR
        go_enter Try.func40, Try.ntmps40
        go_wp2_with (first | (go_at_call 22; refine Hh.out.mono ?_; rintro _ _ ⟨rfl, rfl⟩) | (go_at_call 44; refine Hl.out.mono ?_; rintro _ _ ⟨rfl, rfl⟩))
        go_ret
        exact ⟨rfl, rfl⟩
  · rw [decide_eq_false h5, Bool.false_and, Bool.false_and] at hR
    subst hR
    go_enter Try.func40, Try.ntmps40
    go_wp2_with fail
    go_ret
    exact ⟨rfl, rfl⟩
theorem polRight_yes (p : Int) (v : Value) (xs : List Int) (w : World) (hp : rightB p = true) (hv : Ints .u64 w v xs) (hx : Pol p xs) (hl : xs.length ≤ 512) :
    Calls Try.prog 40 #[.int .u64 p, v] w fun e w' => e = .returned (.bool true) ∧ w = w' := by
  have h2 := rightB_true hp
  have := polRight_any p v xs w (by omega) (by omega) hv (hx.rng.u64 h2.2)
  rw [(rightPB_iff (hx.rng.u64 h2.2)).2 ⟨hp, hx, hl⟩] at this
  exact this
end Go.Proofs.Ytbpbagejblbacaa
