/- What the texts Ref01, CupN, CupP, RingM show, in one text. -/
import Derived.Test.YtnfnommiabalfaaBun05
import Derived.Test.YtnfnommiabalfaaBun07
import Derived.Test.YtnfnommiabalfaaBun06
/- What the document's own answers for layer 1 are. -/
namespace Go.Proofs.Ytnfnommiabalfaa
open Go.RowKit



set_option maxHeartbeats 400000 in
theorem rAdd (p a b r : Int) (w : World) (hp : rightB p = true) (ha0 : 0 ≤ a) (ha : a < p) (hb0 : 0 ≤ b) (hb : b < p) (h : (a + b) % p = r) :
    Calls Try.prog 81 #[.int .u64 p, .int .u64 a, .int .u64 b] w fun e w' => e = .returned (.int .u64 r) ∧ w = w' := by
  have hp2 := rightB_true hp
  have hp3 : p ≠ 0 := by omega
  have H := hid h
  clear h hp
  go_enter Try.func81, Try.ntmps81
  go_wp2_with fail
  go_ret
  exact ⟨ret_int H.out, rfl⟩
set_option maxHeartbeats 400000 in
theorem rSub (p a b r : Int) (w : World) (hp : rightB p = true) (ha0 : 0 ≤ a) (ha : a < p) (hb0 : 0 ≤ b) (hb : b < p) (h : (a - b) % p = r) :
    Calls Try.prog 51 #[.int .u64 p, .int .u64 a, .int .u64 b] w fun e w' => e = .returned (.int .u64 r) ∧ w = w' := by
  have hp2 := rightB_true hp
  have hp3 : p ≠ 0 := by omega
  have H := hid h
  clear h hp
  go_enter Try.func51, Try.ntmps51
  go_wp2_with fail
  go_ret
  exact ⟨ret_int (by rw [← H.out, show a + p - b = a - b + p by omega, Int.add_emod_right]), rfl⟩

theorem half_even {p a b h : Int} (hh : a * (b / 2) % p = h) (hb : b % 2 = 0) : (h + h) % p = a * b % p := by
  rw [← hh, ma_l, ma_r]
  congr 1
  have : b = b / 2 * 2 := by omega
  generalize b / 2 = c at *
  subst this; grind
theorem half_odd {p a b h g : Int} (hh : a * (b / 2) % p = h) (hg : (h + h) % p = g) (hb : b % 2 = 1) : (g + a) % p = a * b % p := by
  rw [← hg, ← hh, ma_l]
  have : b = b / 2 * 2 + 1 := by omega
  generalize b / 2 = c at *
  rw [mod_eq_iff]
  have e := Int.emod_def (a * c) p
  refine ⟨-2 * (a * c / p), ?_⟩
  rw [e, this]; grind
set_option maxHeartbeats 1000000 in
theorem rMul_all (n : Nat) : ∀ (p a b : Int) (w : World), b.toNat ≤ n → rightB p = true → 0 ≤ a → a < p → 0 ≤ b → b ≤ 18446744073709551615 →
    Calls Try.prog 50 #[.int .u64 p, .int .u64 a, .int .u64 b] w fun e w' => e = .returned (.int .u64 (a * b % p)) ∧ w = w' := by
  induction n with
  | zero =>
    intro p a b w hn hp ha0 ha hb0 hb
    obtain rfl : b = 0 := by omega
    go_enter Try.func50, Try.ntmps50
    go_wp2_with fail
    go_ret
    exact ⟨ret_int (by simp), rfl⟩
  | succ n ih =>
    intro p a b w hn hp ha0 ha hb0 hb
    by_cases h0 : b = 0
    · subst h0
      go_enter Try.func50, Try.ntmps50
      go_wp2_with fail
      go_ret
      exact ⟨ret_int (by simp), rfl⟩
    · have hp2 := rightB_true hp
      have t0 : (b == 0) = false := by simpa using h0
      have Ih := hid ih; clear ih
      obtain ⟨h, eh, h1, h2⟩ := name_mod (a * (b / 2)) hp2.1
      obtain ⟨g, eg, g1, g2⟩ := name_mod (h + h) hp2.1
      by_cases hb2 : b % 2 = 1
      · have t1 : (b % 2 == 1) = true := by simpa using hb2
        have E := hid (half_odd eh eg hb2)
        obtain ⟨r, er, r1, r2⟩ := name_mod (g + a) hp2.1
        have Er := hid er; have Eh := hid eh; have Eg := hid eg; have Hp := hid hp
        rw [er] at E
        clear hp eh eg er hb2 h0
        go_enter Try.func50, Try.ntmps50
        go_wp2_with fail
        refine (Ih.out p a (b / 2) _ (by omega) Hp.out ha0 ha (by omega) (by omega)).mono ?_
        rw [Eh.out]; rintro _ _ ⟨rfl, rfl⟩
        go_wp2_with fail
        refine (rAdd p h h g _ Hp.out h1 h2 h1 h2 Eg.out).mono ?_; rintro _ _ ⟨rfl, rfl⟩
        go_wp2_with fail
        refine (rAdd p g a r _ Hp.out g1 g2 ha0 ha Er.out).mono ?_; rintro _ _ ⟨rfl, rfl⟩
        go_wp2_with fail
        go_ret
        exact ⟨ret_int E.out, rfl⟩
      · have t1 : (b % 2 == 1) = false := by simpa using hb2
        have E := hid (half_even eh (by omega))
        rw [eg] at E
        have Eh := hid eh; have Eg := hid eg; have Hp := hid hp
        clear hp eh eg hb2 h0
        go_enter Try.func50, Try.ntmps50
        go_wp2_with fail
        refine (Ih.out p a (b / 2) _ (by omega) Hp.out ha0 ha (by omega) (by omega)).mono ?_
        rw [Eh.out]; rintro _ _ ⟨rfl, rfl⟩
        go_wp2_with fail
        refine (rAdd p h h g _ Hp.out h1 h2 h1 h2 Eg.out).mono ?_; rintro _ _ ⟨rfl, rfl⟩
        go_wp2_with fail
        go_ret
        exact ⟨ret_int E.out, rfl⟩
theorem rMul (p a b r : Int) (w : World) (hp : rightB p = true) (ha0 : 0 ≤ a) (ha : a < p) (hb0 : 0 ≤ b) (hb : b ≤ 18446744073709551615) (h : a * b % p = r) :
    Calls Try.prog 50 #[.int .u64 p, .int .u64 a, .int .u64 b] w fun e w' => e = .returned (.int .u64 r) ∧ w = w' :=
  h ▸ rMul_all b.toNat p a b w (Nat.le_refl _) hp ha0 ha hb0 hb


set_option maxHeartbeats 1000000 in
theorem rGcd (a b : Int) (w : World) (ha0 : 0 ≤ a) (ha : a ≤ 18446744073709551615) (hb0 : 0 ≤ b) (hb : b ≤ 18446744073709551615) :
    Calls Try.prog 80 #[.int .u64 a, .int .u64 b] w (Ret (.int .u64 (Int.gcd a b)) w) := by
  generalize hg : ((Int.gcd a b : Nat) : Int) = G
  have HG := hid hg; clear hg
  go_enter Try.func80, Try.ntmps80
  go_wp2_with fail
  go_loopw [0, 1] (fun u v wr => ∃ x y : Int, u = .int .u64 x ∧ v = .int .u64 y ∧ 0 ≤ x ∧ x ≤ 18446744073709551615 ∧ 0 ≤ y ∧ y ≤ 18446744073709551615 ∧ ((Int.gcd x y : Nat) : Int) = G ∧ Ext w wr) (fun _ v _ => (intOf v).toNat)
  case atStart => exact ⟨a, b, rfl, rfl, ha0, ha, hb0, hb, HG.out, (by repeat (first | exact Ext.refl _ | assumption | refine Ext.drew ?_ | refine Ext.drewN ?_ _ | refine Ext.alloc ?_ _ | refine Ext.trans ?_ (by assumption)))⟩
  case round =>
    obtain ⟨x, y, rfl, rfl, hx0, hx, hy0, hy, hg, hw⟩ := hrel
    by_cases h0 : 0 < y
    · have hs := gcd_step hx0 hy0
      have hm := Int.emod_nonneg x (show y ≠ 0 by omega)
      have hm2 := Int.emod_lt_of_pos x h0
      have hy1 : y ≠ 0 := by omega
      rw [← hs] at hg
      have Hg := hid hg; clear hg hs
      go_wp2_with fail
      go_quiet (fail)
      go_wp2_with fail
      go_roundw
      case rel => exact ⟨_, _, rfl, rfl, hy0, hy, hm, by omega, Hg.out, (by repeat (first | exact Ext.refl _ | assumption | refine Ext.drew ?_ | refine Ext.drewN ?_ _ | refine Ext.alloc ?_ _ | refine Ext.trans ?_ (by assumption)))⟩
      case measure => simp [intOf]; omega
    · obtain rfl : y = 0 := by omega
      rw [Int.gcd_zero_right] at hg
      have hg' : x = G := by omega
      have Hg := hid hg'; clear hg hg'
      go_wp2_with fail
      go_ret
      exact ⟨ret_int Hg.out, (by repeat (first | exact Ext.refl _ | assumption | refine Ext.drew ?_ | refine Ext.drewN ?_ _ | refine Ext.alloc ?_ _ | refine Ext.trans ?_ (by assumption)))⟩

theorem sub_mul_le (l n : Int) (hn : 0 < n) (hl : 0 ≤ l) : 0 ≤ l / n * n ∧ l / n * n ≤ l ∧ l - l / n * n = l % n := by
  have h1 := Int.ediv_mul_add_emod l n
  have h2 := Int.emod_nonneg l (show n ≠ 0 by omega)
  have h3 := Int.mul_nonneg (Int.ediv_nonneg hl (by omega) : 0 ≤ l / n) (show 0 ≤ n by omega)
  omega
theorem rGcd_as (a b g : Int) (w : World) (ha0 : 0 ≤ a) (ha : a ≤ 18446744073709551615) (hb0 : 0 ≤ b) (hb : b ≤ 18446744073709551615) (h : ((Int.gcd a b : Nat) : Int) = g) :
    Calls Try.prog 80 #[.int .u64 a, .int .u64 b] w (Ret (.int .u64 g) w) := h ▸ rGcd a b w ha0 ha hb0 hb
theorem unitB_gcd {p a : Int} (h : unitB p a = true) : ((Int.gcd p a : Nat) : Int) = 1 := by
  have : Int.gcd p a = 1 := by simpa [unitB] using h
  omega
theorem unitB_gcd' {p a : Int} (h : unitB p a = false) : (((Int.gcd p a : Nat) : Int) == 1) = false := by
  have : ¬ Int.gcd p a = 1 := by simpa [unitB] using h
  simp; omega
set_option maxHeartbeats 1000000 in
theorem rInv_zero (p a : Int) (w : World) (hp : rightB p = true) (ha0 : 0 ≤ a) (ha : a < p) (hu : unitB p a = false) :
    Calls Try.prog 49 #[.int .u64 p, .int .u64 a] w (Ret (.tuple #[.int .u64 0, .int .i64 5]) w) := by
  have hp2 := rightB_true hp
  have hg := unitB_gcd' hu
  obtain ⟨g, eg⟩ : ∃ g, ((Int.gcd p a : Nat) : Int) = g := ⟨_, rfl⟩
  rw [eg] at hg
  have Eg := hid eg; clear eg hp hu
  go_enter Try.func49, Try.ntmps49
  go_wp2_with fail
  refine (rGcd_as p a g _ (by omega) (by omega) ha0 (by omega) Eg.out).mono ?_; rintro _ w1 ⟨rfl, h1⟩
  go_wp2_with fail
  go_ret2
  exact ⟨rfl, (by repeat (first | exact Ext.refl _ | assumption | refine Ext.drew ?_ | refine Ext.drewN ?_ _ | refine Ext.alloc ?_ _ | refine Ext.trans ?_ (by assumption)))⟩
set_option maxHeartbeats 1000000 in
theorem rInv_yes (p a : Int) (w : World) (hp : rightB p = true) (ha0 : 0 ≤ a) (ha : a < p) (hu : unitB p a = true) :
    Calls Try.prog 49 #[.int .u64 p, .int .u64 a] w (Ret (.tuple #[.int .u64 (minv p a), .int .i64 0]) w) := by
  have hp2 := rightB_true hp
  have Hp := hid hp
  have Eg := hid (unitB_gcd hu)
  have Hu := hid hu
  obtain ⟨z, ez⟩ : ∃ z, minv p a = z := ⟨_, rfl⟩
  rw [ez]
  have Ez := hid ez; clear ez hp hu
  go_enter Try.func49, Try.ntmps49
  go_wp2_with fail
  refine (rGcd_as p a 1 _ (by omega) (by omega) ha0 (by omega) Eg.out).mono ?_; rintro _ w1 ⟨rfl, h1⟩
  go_wp2_with fail
  go_loopw [6, 7, 8, 9] (fun v6 v7 v8 v9 wr => ∃ l n s t : Int, v6 = .int .u64 l ∧ v7 = .int .u64 n ∧ v8 = .int .u64 s ∧ v9 = .int .u64 t ∧ 0 < l ∧ l ≤ p ∧ 0 ≤ n ∧ n < l ∧ 0 ≤ s ∧ s < p ∧ 0 ≤ t ∧ t < p ∧
    a * s % p = l % p ∧ a * t % p = n % p ∧ Int.gcd l n = Int.gcd p a ∧ Ext w wr) (fun _ v7 _ _ _ => (intOf v7).toNat)
  case atStart => exact ⟨p, a, 0, 1, rfl, rfl, rfl, rfl, by omega, by omega, ha0, ha, by omega, by omega, by omega, by omega, by simp, by simp, rfl, (by repeat (first | exact Ext.refl _ | assumption | refine Ext.drew ?_ | refine Ext.drewN ?_ _ | refine Ext.alloc ?_ _ | refine Ext.trans ?_ (by assumption)))⟩
  case round =>
    obtain ⟨l, n, s, t, rfl, rfl, rfl, rfl, hl0, hl, hn0, hn, hs0, hs, ht0, ht, h1, h2, h3, hw⟩ := hrel
    have H1 := hid h1; have H2 := hid h2; have H3 := hid h3; clear h1 h2 h3
    by_cases h0 : 0 < n
    · have hq0 : 0 ≤ l / n := Int.ediv_nonneg (by omega) (by omega)
      have hq1 : l / n ≤ l := Int.ediv_le_self _ (by omega)
      have hsm := sub_mul_le l n h0 (by omega)
      have hm := Int.emod_nonneg l (show n ≠ 0 by omega)
      have hm2 := Int.emod_lt_of_pos l h0
      have hn1 : n ≠ 0 := by omega
      have hp1 : p ≠ 0 := by omega
      obtain ⟨q, eq, q0, q1⟩ := name_mod (l / n) hp2.1
      obtain ⟨r, er, r0, r1⟩ := name_mod (q * t) hp2.1
      obtain ⟨u, eu, u0, u1⟩ := name_mod (s - r) hp2.1
      have hrd := inv_round H1.out H2.out
      have e1 : (s - l / n * t) % p = u := by rw [← eu, ← er, ms_r, ← ms_r, ← mm_l, eq, ms_r]
      rw [e1] at hrd
      have Hrd := hid hrd
      have hgs := gcd_step (a := l) (b := n) (by omega) hn0
      have Hgs := hid hgs
      have Er := hid er; have Eu := hid eu
      obtain ⟨hs1, hs2, hs3⟩ := hsm
      clear hrd hgs e1 er eu
      go_wp2_with fail
      refine (rMul p q t r _ Hp.out q0 q1 ht0 (by omega) Er.out).mono ?_; rintro _ _ ⟨rfl, rfl⟩
      go_wp2_with fail
      refine (rSub p s r u _ Hp.out hs0 hs r0 r1 Eu.out).mono ?_; rintro _ _ ⟨rfl, rfl⟩
      go_wp2_with fail
      go_roundw
      case rel => exact ⟨_, _, _, _, rfl, rfl, rfl, rfl, h0, by omega, hm, hm2, ht0, ht, u0, u1, H2.out, Hrd.out, by rw [Hgs.out, H3.out], (by repeat (first | exact Ext.refl _ | assumption | refine Ext.drew ?_ | refine Ext.drewN ?_ _ | refine Ext.alloc ?_ _ | refine Ext.trans ?_ (by assumption)))⟩
      case measure => simp [intOf]; omega
    · obtain rfl : n = 0 := by omega
      have h4 := inv_last (p := p) (a := a) (by omega) H3.out
      rw [Hu.out] at h4
      have h5 : l = 1 := by simpa using h4.symm
      subst h5
      have h6 := minv_eq hs0 hs (H1.out.trans (mod_small (by omega) (by omega)))
      rw [Ez.out] at h6
      have H6 := hid h6; clear h6 h4
      go_wp2_with fail
      go_ret2
      exact ⟨by rw [H6.out]; rfl, (by repeat (first | exact Ext.refl _ | assumption | refine Ext.drew ?_ | refine Ext.drewN ?_ _ | refine Ext.alloc ?_ _ | refine Ext.trans ?_ (by assumption)))⟩

end Go.Proofs.Ytnfnommiabalfaa
/- What taking a matrix apart tells over a field: profiles of first rows and of rows again, minors, products' ranks, other orders (in plain Lean; nothing of a program). -/
namespace Go.Proofs.Ytnfnommiabalfaa
variable {p : Int} {n m : Nat} {R : Nat → List Int} {st : ElE}

/-- a step puts rows behind, no others -/
theorem stepE_rows {i : Nat} {row : List Int} {s' : ElE} (h : stepE p n st i row = some s') : s'.rows = st.rows ∨ s'.rows = st.rows ++ [i] := by
  unfold stepE at h
  simp only at h
  split at h
  · split at h
    · injection h with h; subst h; exact .inr rfl
    · cases h
  · injection h with h; subst h; exact .inl rfl
/-- the first rows' profile is the beginning of all rows' -/
theorem takeE_prefix {i : Nat} {s1 : ElE} (h1 : takeE p n R i = some s1) : ∀ (d : Nat) {s2 : ElE}, takeE p n R (i + d) = some s2 → ∃ t, s2.rows = s1.rows ++ t ∧ ∀ x ∈ t, i ≤ x
  | 0, s2, h => by
    rw [Nat.add_zero, h1] at h
    injection h with h
    subst h
    exact ⟨[], by simp, by simp⟩
  | d + 1, s2, h => by
    have h' : (takeE p n R (i + d)).bind (fun st => stepE p n st (i + d) (R (i + d))) = some s2 := h
    cases h3 : takeE p n R (i + d) with
    | none => rw [h3] at h'; cases h'
    | some s3 =>
      rw [h3] at h'
      obtain ⟨t, e, ht⟩ := takeE_prefix h1 d h3
      rcases stepE_rows (p := p) (n := n) (st := s3) (i := i + d) (row := R (i + d)) (s' := s2) h' with e2 | e2
      · exact ⟨t, e2.trans e, ht⟩
      · refine ⟨t ++ [i + d], by rw [e2, e, List.append_assoc], fun x hx => ?_⟩
        rcases List.mem_append.1 hx with hx | hx
        · exact ht x hx
        · have : x = i + d := by simpa using hx
          omega
theorem takeE_less {i d : Nat} {s2 : ElE} (h : takeE p n R (i + d) = some s2) : ∃ s1, takeE p n R i = some s1 := by
  induction d generalizing s2 with
  | zero => exact ⟨s2, h⟩
  | succ d ih =>
    have h' : (takeE p n R (i + d)).bind (fun st => stepE p n st (i + d) (R (i + d))) = some s2 := h
    cases h3 : takeE p n R (i + d) with
    | none => rw [h3] at h'; cases h'
    | some s3 => exact ih h3
theorem takeE_congr {R' : Nat → List Int} : ∀ m : Nat, (∀ i, i < m → R i = R' i) → takeE p n R m = takeE p n R' m
  | 0, _ => rfl
  | m + 1, h => by simp only [takeE]; rw [takeE_congr m fun i hi => h i (by omega), h m (by omega)]
/-- a row that is made of the rests leaves nothing -/
theorem ElOk.nothing (hp : HasInv p) (h : ElOk p n R m st) {row : List Int} (hl : row.length = n) (hr : Rng p row) (hc : Comb p n st.U.length (fun k => lf (st.U.getD k [])) (lf row)) (i : Nat) :
    ∃ l, stepE p n st i row = some { st with C := st.C ++ [l] } := by
  have hE := elimE_ok hp.1 hl hr rfl (fun k hk => ⟨(h.row k hk).1, (h.row k hk).2.1, (h.row k hk).2.2.1, (h.row k hk).2.2.2.1⟩) h.zero st.U.length (Nat.le_refl _)
  obtain ⟨e, he⟩ : ∃ e, elimE p n st.U st.cols row st.U.length = e := ⟨_, rfl⟩
  rw [he] at hE
  obtain ⟨_, _, a3, a4, a5, a6⟩ := hE
  have hc2 : Comb p n st.U.length (fun k => lf (st.U.getD k [])) (lf e.2) := by
    obtain ⟨c, hc⟩ := hc
    refine ⟨fun t => c t - e.1.getD t 0, fun j hj => ?_⟩
    have h1 := hc j hj
    have h2 := a5 j hj
    have h3 : (sm st.U.length fun t => (c t - e.1.getD t 0) * lf (st.U.getD t []) j) = (sm st.U.length fun t => c t * lf (st.U.getD t []) j) + - sm st.U.length fun t => e.1.getD t 0 * lf (st.U.getD t []) j := by
      rw [← sm_neg, ← sm_add]
      exact sm_congr fun t _ => by grind
    rw [h3]
    have h4 : (sm st.U.length fun t => c t * lf (st.U.getD t []) j) % p = (e.2.getD j 0 + sm st.U.length fun t => e.1.getD t 0 * lf (st.U.getD t []) j) % p := by rw [← h1]; exact h2
    rw [Int.add_emod, h4, ← Int.add_emod]
    show e.2.getD j 0 % p = _
    congr 1
    omega
  have hz := h.ech.none hp hc2 fun k hk => by
    show e.2.getD (st.cols.getD k 0) 0 % p = 0
    rw [a6 k hk]; simp
  have hle : leadE e.2 = n := by
    rw [← a3]
    refine leadE_all fun j hj => ?_
    have h1 := hz j (by omega)
    have h2 := a4.getD hp.1 j
    have h3 : e.2.getD j 0 % p = 0 := h1
    rwa [Int.emod_eq_of_lt h2.1 h2.2] at h3
  refine ⟨e.1, ?_⟩
  unfold stepE
  rw [he]
  simp only
  rw [if_neg (by omega)]
/-- as many rows again add nothing to the profile -/
theorem takeE_again (hp : HasInv p) (hR : ∀ i, i < m → (R i).length = n ∧ Rng p (R i)) {R' : Nat → List Int} (h0 : ∀ i, i < m → R' i = R i) (h1 : ∀ i, i < m → R' (m + i) = R i) (h : takeE p n R m = some st) : ∀ d, d ≤ m → ∃ s, takeE p n R' (m + d) = some s ∧ s.rows = st.rows
  | 0, _ => ⟨st, by rw [Nat.add_zero, takeE_congr (R' := R) m h0, h], rfl⟩
  | d + 1, hd => by
    obtain ⟨s, hs, er⟩ := takeE_again hp hR h0 h1 h d (by omega)
    have hR' : ∀ i, i < m + d → (R' i).length = n ∧ Rng p (R' i) := fun i hi => by
      by_cases c : i < m
      · rw [h0 i c]; exact hR i c
      · have := h1 (i - m) (by omega)
        rw [show m + (i - m) = i by omega] at this
        rw [this]; exact hR _ (by omega)
    have ok := takeE_ok hp.1 (m + d) hR' hs
    have e1 := h1 d (by omega)
    have hc : Comb p n s.U.length (fun k => lf (s.U.getD k [])) (lf (R' (m + d))) := by
      rw [e1, ← h0 d (by omega)]
      exact (ok.bas hp).gen d (by omega)
    obtain ⟨l, hl⟩ := ok.nothing hp (row := R' (m + d)) (by rw [e1]; exact (hR d (by omega)).1) (by rw [e1]; exact (hR d (by omega)).2) hc (m + d)
    refine ⟨{ s with C := s.C ++ [l] }, ?_, er⟩
    show (takeE p n R' (m + d)).bind (fun st => stepE p n st (m + d) (R' (m + d))) = _
    rw [hs]
    exact hl
/-- rows that are made of one another in steps are as free -/
theorem Ind.steps {r : Nat} {u w : Nat → RowF} (hu : Ind p n r u) (c : Nat → Nat → Int) (h1 : ∀ i, i < r → c i i = 1) (h2 : ∀ i t, i < t → t < r → c i t = 0) (hw : ∀ i, i < r → ∀ j, j < n → w i j % p = (sm r fun t => c i t * u t j) % p) : Ind p n r w := by
  intro x hx
  have hy : ∀ t, t < r → (sm r fun i => x i * c i t) % p = 0 := hu _ fun j hj => by
    have e : (sm r fun t => (sm r fun i => x i * c i t) * u t j) = sm r fun i => x i * sm r fun t => c i t * u t j := by
      rw [sm_congr (g := fun t => sm r fun i => x i * (c i t * u t j)) fun t _ => by rw [← sm_mul_r]; exact sm_congr fun i _ => by grind, sm_comm]
      exact sm_congr fun i _ => by rw [sm_mul]
    rw [e, ← hx j hj]
    exact sm_mod fun i hi => by rw [Int.mul_emod, ← hw i hi j hj, ← Int.mul_emod]
  have main : ∀ d k, k + d + 1 = r → x k % p = 0 := by
    intro d
    induction d using Nat.strongRecOn with
    | ind d ih =>
      intro k hk
      have h := hy k (by omega)
      rw [sm_mod (g := fun i => if i = k then x k else 0) fun i hi => ?_, sm_single (fun _ => x k) (by omega)] at h
      · exact h
      · rcases Nat.lt_trichotomy i k with e | e | e
        · rw [if_neg (by omega), h2 i k e (by omega)]; simp
        · subst e; rw [if_pos rfl, h1 i hi, Int.mul_one]
        · rw [if_neg (by omega), mz_mul' (ih (r - i - 1) (by omega) i (by omega))]; simp
  exact fun k hk => main (r - k - 1) k (by omega)
/-- the rows that count, in the columns that count: none is made of the others -/
theorem ElOk.minor (hp : HasInv p) (h : ElOk p n R m st) (sc : Nat → Nat) {q : Nat} (hs : ∀ k, k < st.U.length → ∃ l, l < q ∧ sc l = st.cols.getD k 0) : Ind p q st.U.length fun i l => (R (st.rows.getD i 0)).getD (sc l) 0 := by
  intro x hx
  have hrl := h.lr
  have hfull : ∀ i, i < st.U.length → ∀ j, j < n → lf (R (st.rows.getD i 0)) j % p = (sm st.U.length fun t => (st.C.getD (st.rows.getD i 0) []).getD t 0 * lf (st.U.getD t []) j) % p := fun i hi j hj => h.full (h.low i (by omega)) hj
  have hind : Ind p n st.U.length fun i => lf (R (st.rows.getD i 0)) := (h.ech.ind hp).steps (fun i t => (st.C.getD (st.rows.getD i 0) []).getD t 0) (fun i hi => (h.one i (by omega)).2) (fun i t hit _ => getD_over (by rw [(h.one i (by omega)).1]; omega)) hfull
  refine hind x ?_
  have hc : Comb p n st.U.length (fun k => lf (st.U.getD k [])) fun j => sm st.U.length fun i => x i * lf (R (st.rows.getD i 0)) j := Comb.sum (fun i hi => ⟨fun t => (st.C.getD (st.rows.getD i 0) []).getD t 0, fun j hj => hfull i hi j hj⟩) x
  exact h.ech.none hp hc fun k hk => by
    obtain ⟨l, hl, e⟩ := hs k hk
    have := hx l hl
    rw [← e]; exact this
end Go.Proofs.Ytnfnommiabalfaa
/- Ranks of products, orders of rows, rows that are scaled or alike: over a field (in plain Lean; nothing of a program). -/
namespace Go.Proofs.Ytnfnommiabalfaa
variable {p : Int} {n m : Nat} {R : Nat → List Int} {st : ElE}

theorem Comb.add {n r : Nat} {u : Nat → RowF} {v w : RowF} (h : Comb p n r u v) (k : Comb p n r u w) (a b : Int) : Comb p n r u fun j => a * v j + b * w j := by
  have := Comb.sum (p := p) (n := n) (r := r) (m := 2) (u := u) (w := fun i => if i = 0 then v else w) (fun i _ => by
    by_cases e : i = 0
    · simp only [if_pos e]; exact h
    · simp only [if_neg e]; exact k) fun i => if i = 0 then a else b
  refine this.congr fun j _ => ?_
  simp [sm]
theorem Comb.zero {n r : Nat} (u : Nat → RowF) : Comb p n r u fun _ => 0 := ⟨fun _ => 0, fun j _ => by rw [sm_zero fun k _ => by simp]⟩
/-- the columns that no rest has -/
def offE (k : Nat) (cols : List Nat) : List Nat := (List.range k).filter fun l => decide (l ∉ cols)
theorem offE_mem {k : Nat} {cols : List Nat} {l : Nat} : l ∈ offE k cols ↔ l < k ∧ l ∉ cols := by simp [offE]
theorem offE_len {k : Nat} {cols : List Nat} (hn : cols.Nodup) (hb : ∀ c ∈ cols, c < k) : (offE k cols).length + cols.length = k := by
  have h1 : ((List.range k).filter fun l => decide (l ∈ cols)).length = cols.length := by
    have hp : ((List.range k).filter fun l => decide (l ∈ cols)).Perm cols := by
      rw [List.perm_iff_count]
      intro a
      have hnr : ((List.range k).filter fun l => decide (l ∈ cols)).Nodup := List.Pairwise.filter _ List.nodup_range
      have c1 := List.nodup_iff_count.1 hnr a
      have c2 := List.nodup_iff_count.1 hn a
      have e : (0 < List.count a ((List.range k).filter fun l => decide (l ∈ cols))) ↔ 0 < List.count a cols := by
        rw [List.count_pos_iff, List.count_pos_iff]
        simp only [List.mem_filter, List.mem_range, decide_eq_true_eq]
        exact ⟨fun h => h.2, fun h => ⟨hb a h, h⟩⟩
      omega
    exact hp.length_eq
  have h2 : ∀ l : List Nat, (l.filter fun x => decide (x ∉ cols)).length + (l.filter fun x => decide (x ∈ cols)).length = l.length := by
    intro l
    induction l with
    | nil => rfl
    | cons a l ih =>
      rw [List.filter_cons, List.filter_cons]
      by_cases e : a ∈ cols
      · rw [if_neg (by simp [e]), if_pos (by simp [e])]; simp only [List.length_cons]; omega
      · rw [if_pos (by simp [e]), if_neg (by simp [e])]; simp only [List.length_cons]; omega
  have := h2 (List.range k)
  rw [h1, List.length_range] at this
  exact this
theorem ElOk.cols_nodup (h : ElOk p n R m st) : st.cols.Nodup := by
  unfold List.Nodup
  rw [List.pairwise_iff_getElem]
  intro i k hi hk hik e
  have e' : st.cols.getD i 0 = st.cols.getD k 0 := by simp only [List.getD, List.getElem?_eq_getElem hi, List.getElem?_eq_getElem hk, Option.getD_some]; exact e
  have := h.ech.inj (by have := h.lk; omega) (by have := h.lk; omega) e'
  omega
theorem ElOk.cols_lt (h : ElOk p n R m st) {c : Nat} (hc : c ∈ st.cols) : c < n := by
  obtain ⟨k, hk, rfl⟩ := List.getElem_of_mem hc
  have := (h.row k (by have := h.lk; omega)).2.2.1
  rwa [List.getD, List.getElem?_eq_getElem hk] at this
/-- a product's rank isn't less than both ranks, less what is between -/
theorem rank_sylvester (hp : HasInv p) {m k n rd rb : Nat} {A : Nat → List Int} {B uD uB : Nat → RowF} {sa : ElE} (ha : ElOk p k A m sa) (D : Bas p n m rd (mulF k (fun i => lf (A i)) B) uD) (E : Bas p n k rb B uB) : sa.U.length + rb ≤ rd + k := by
  have hlen := offE_len ha.cols_nodup fun c hc => ha.cols_lt hc
  have hlk := ha.lk
  have hba := ha.bas hp
  -- what spans all of B's rows
  let F : Nat → RowF := fun i => if i < rd then uD i else B ((offE k sa.cols).getD (i - rd) 0)
  have hF1 : ∀ v, Comb p n rd uD v → Comb p n (rd + (offE k sa.cols).length) F v := fun v hv => hv.trans fun i hi => by
    have : F i = uD i := if_pos hi
    rw [← this]; exact Comb.one F (by omega)
  have hF2 : ∀ l, l ∈ offE k sa.cols → Comb p n (rd + (offE k sa.cols).length) F (B l) := fun l hl => by
    obtain ⟨i, hi, e⟩ := List.getElem_of_mem hl
    have : F (rd + i) = B l := by
      show (if rd + i < rd then _ else B ((offE k sa.cols).getD (rd + i - rd) 0)) = _
      rw [if_neg (by omega), show rd + i - rd = i by omega, List.getD, List.getElem?_eq_getElem hi, Option.getD_some, e]
    rw [← this]; exact Comb.one F (by omega)
  have hUB : ∀ t, t < sa.U.length → Comb p n (rd + (offE k sa.cols).length) F fun j => sm k fun l => (sa.U.getD t []).getD l 0 * B l j := fun t ht => by
    refine hF1 _ ?_
    obtain ⟨c, hc⟩ := hba.own t ht
    refine (Comb.sum D.gen c).congr fun j _ => ?_
    have e : (sm m fun i => c i * mulF k (fun i => lf (A i)) B i j) = sm k fun l => (sm m fun i => c i * lf (A i) l) * B l j := by
      unfold mulF
      rw [sm_congr (g := fun i => sm k fun l => c i * lf (A i) l * B l j) fun i _ => by rw [← sm_mul]; exact sm_congr fun l _ => by grind, sm_comm]
      exact sm_congr fun l _ => by rw [sm_mul_r]
    rw [e]
    exact sm_mod fun l hl => by
      have h1 : (sa.U.getD t []).getD l 0 % p = _ := hc l hl
      rw [Int.mul_emod, h1, ← Int.mul_emod]
  have hpiv : ∀ d t, t + d + 1 = sa.U.length → Comb p n (rd + (offE k sa.cols).length) F (B (sa.cols.getD t 0)) := by
    intro d
    induction d using Nat.strongRecOn with
    | ind d ih =>
      intro t ht
      obtain ⟨_, b2, b3, b4, _, _⟩ := ha.row t (by omega)
      have hinv := unit_inv p ((sa.U.getD t []).getD (sa.cols.getD t 0) 0) hp.1 (b2.getD hp.1 _).1 b4
      obtain ⟨z, hz⟩ : ∃ z, minv p ((sa.U.getD t []).getD (sa.cols.getD t 0) 0) = z := ⟨_, rfl⟩
      rw [hz] at hinv
      have hrest : Comb p n (rd + (offE k sa.cols).length) F fun j => sm k fun l => (if l = sa.cols.getD t 0 then 0 else (sa.U.getD t []).getD l 0) * B l j := by
        refine (Comb.sum (m := k) (w := fun l => if l = sa.cols.getD t 0 ∨ (sa.U.getD t []).getD l 0 = 0 then fun _ => 0 else B l) (fun l hl => ?_) fun l => (sa.U.getD t []).getD l 0).congr fun j _ => ?_
        · by_cases e : l = sa.cols.getD t 0 ∨ (sa.U.getD t []).getD l 0 = 0
          · simp only [if_pos e]; exact Comb.zero F
          · simp only [if_neg e]
            by_cases hc : l ∈ sa.cols
            · obtain ⟨i, hi, e2⟩ := List.getElem_of_mem hc
              have e3 : sa.cols.getD i 0 = l := by rw [List.getD, List.getElem?_eq_getElem hi]; exact e2
              have hit : t < i := by
                rcases Nat.lt_trichotomy i t with c | c | c
                · exact absurd (.inr (by rw [← e3]; exact ha.zero t i c (by omega))) e
                · exact absurd (.inl (by rw [← e3, c])) e
                · exact c
              rw [← e3]
              exact ih (sa.U.length - i - 1) (by omega) i (by omega)
            · exact hF2 l (offE_mem.2 ⟨hl, hc⟩)
        · refine congrArg (· % p) (sm_congr fun l _ => ?_)
          by_cases e : l = sa.cols.getD t 0
          · simp [e]
          · by_cases e2 : (sa.U.getD t []).getD l 0 = 0
            · rw [if_neg e, e2]; simp
            · rw [if_neg e, if_neg (by simp only [not_or]; exact ⟨e, e2⟩)]
      refine ((hUB t (by omega)).add hrest z (-z)).congr fun j _ => ?_
      have e1 : (sm k fun l => (sa.U.getD t []).getD l 0 * B l j) = (sm k fun l => (if l = sa.cols.getD t 0 then 0 else (sa.U.getD t []).getD l 0) * B l j) + (sa.U.getD t []).getD (sa.cols.getD t 0) 0 * B (sa.cols.getD t 0) j := by
        rw [← sm_single (n := k) (fun _ => (sa.U.getD t []).getD (sa.cols.getD t 0) 0 * B (sa.cols.getD t 0) j) b3, ← sm_add]
        exact sm_congr fun l _ => by
          by_cases e : l = sa.cols.getD t 0
          · simp [e]
          · rw [if_neg e, if_neg e, Int.add_zero]
      show B (sa.cols.getD t 0) j % p = _
      rw [e1]
      obtain ⟨T, hT⟩ : ∃ T, (sm k fun l => (if l = sa.cols.getD t 0 then 0 else (sa.U.getD t []).getD l 0) * B l j) = T := ⟨_, rfl⟩
      rw [hT]
      obtain ⟨a, ha'⟩ : ∃ a, (sa.U.getD t []).getD (sa.cols.getD t 0) 0 = a := ⟨_, rfl⟩
      rw [ha'] at hinv ⊢
      obtain ⟨b, hb⟩ : ∃ b, B (sa.cols.getD t 0) j = b := ⟨_, rfl⟩
      rw [hb]
      rw [show z * (T + a * b) + -z * T = (a * z) * b by grind, Int.mul_emod, hinv, Int.one_mul, Int.emod_emod]
  have := E.le_of hp (w := F) (s := rd + (offE k sa.cols).length) fun l hl => by
    by_cases hc : l ∈ sa.cols
    · obtain ⟨i, hi, e2⟩ := List.getElem_of_mem hc
      have e3 : sa.cols.getD i 0 = l := by rw [List.getD, List.getElem?_eq_getElem hi]; exact e2
      rw [← e3]
      exact hpiv (sa.U.length - i - 1) i (by omega)
    · exact hF2 l (offE_mem.2 ⟨hl, hc⟩)
  omega
/-- rows in another order have the same rank -/
theorem rank_order (hp : HasInv p) {o : List Int} (ho : Ord m o) {s2 : ElE} (h : ElOk p n R m st) (h2 : ElOk p n (fun i => R (o.getD i 0).toNat) m s2) : s2.U.length = st.U.length := by
  refine Nat.le_antisymm ((h2.bas hp).le hp (h.bas hp) fun i hi => ?_) ((h.bas hp).le hp (h2.bas hp) fun i hi => ?_)
  · have := ho.get hi
    exact Comb.one (fun i => lf (R i)) (by omega)
  · obtain ⟨k, hk, e⟩ := ho.find hi
    have := Comb.one (p := p) (n := n) (r := m) (fun i => lf (R (o.getD i 0).toNat)) hk
    simp only [e, Int.toNat_natCast] at this
    exact this
/-- .. and the determinant times the order's sign -/
theorem det_order {o : List Int} (ho : Ord n o) : detN n (rowsF n fun i => R (o.getD i 0).toNat) = sgnL o * detN n (rowsF n R) := by
  have h1 := (detN_alt n).perm (fun x => lf (R x.toNat)) ho.perm [] (by simp [upL_len])
  have e1 : (upL n).map (fun x => lf (R x.toNat)) = rowsF n R := by
    unfold upL tab rowsF
    rw [List.map_map]
    rfl
  have e2 : o.map (fun x => lf (R x.toNat)) = rowsF n fun i => R (o.getD i 0).toNat := by
    have := tab_of ho.len (f := fun i => o.getD i 0) fun _ _ => rfl
    conv => lhs; rw [this, tab, List.map_map]
    rfl
  rw [List.nil_append, List.nil_append, e1, e2, inv_up] at h1
  rw [sgnL_sg]
  have h2 := sg_sq (invL o)
  have h3 : sg 0 = 1 := rfl
  rw [h3, Int.one_mul] at h1
  grind
theorem rowsF_split {i : Nat} (hi : i < n) (R : Nat → List Int) : rowsF n R = (rowsF n R).take i ++ lf (R i) :: (rowsF n R).drop (i + 1) := by
  rw [← rowsF_get (R := R) hi, ← rwF_drop (by rw [rowsF_len]; exact hi), List.take_append_drop]
theorem rowsF_other {i : Nat} {R R' : Nat → List Int} (h : ∀ k, k < n → k ≠ i → R' k = R k) : (rowsF n R').take i = (rowsF n R).take i ∧ (rowsF n R').drop (i + 1) = (rowsF n R).drop (i + 1) := by
  constructor
  · refine List.ext_getElem? fun k => ?_
    simp only [List.getElem?_take, rowsF, List.getElem?_map]
    by_cases hk : k < i
    · rw [if_pos hk, if_pos hk]
      by_cases hn : k < n
      · simp [hn, h k hn (by omega)]
      · simp [hn]
    · rw [if_neg hk, if_neg hk]
  · refine List.ext_getElem? fun k => ?_
    simp only [List.getElem?_drop, rowsF, List.getElem?_map]
    by_cases hn : i + 1 + k < n
    · simp [hn, h _ hn (by omega)]
    · simp [hn]
/-- a row that is scaled modulo p scales the determinant -/
theorem det_scale {i : Nat} (hi : i < n) {R' : Nat → List Int} {x : Int} (h : ∀ k, k < n → k ≠ i → R' k = R k) (hx : ∀ j, j < n → (R' i).getD j 0 % p = (R i).getD j 0 * x % p) : detN n (rowsF n R') % p = detN n (rowsF n R) * x % p := by
  obtain ⟨e1, e2⟩ := rowsF_other h
  have hl : ∀ y : RowF, ((rowsF n R).take i ++ y :: (rowsF n R).drop (i + 1)).length = n := fun y => by simp [rowsF_len]; omega
  rw [rowsF_split hi R', e1, e2, (detN_alt n).mod (p := p) _ _ (fun j => x * lf (R i) j) _ (hl _) fun j hj => by
    show (R' i).getD j 0 % p = x * (R i).getD j 0 % p
    rw [hx j hj, Int.mul_comm], (detN_alt n).scale _ _ _ x (hl _), ← rowsF_split hi R, Int.mul_comm]
/-- two rows that are alike make it 0 -/
theorem det_alike {i k : Nat} (hi : i < n) (hk : k < n) (hik : i ≠ k) (h : R i = R k) : detN n (rowsF n R) = 0 := by
  have hl : ((rowsF n R).take i ++ lf (R i) :: (rowsF n R).drop (i + 1)).length = n := by simp [rowsF_len]; omega
  rw [rowsF_split hi R]
  rcases Nat.lt_or_gt_of_ne hik with c | c
  · refine (detN_alt n).memR ?_ hl
    have e : lf (R i) = rwF ((rowsF n R).drop (i + 1)) (k - (i + 1)) := by
      rw [h, ← rowsF_get hk]; simp [rwF, List.getD, show i + 1 + (k - (i + 1)) = k by omega]
    rw [e]; exact rwF_mem (by simp [rowsF_len]; omega)
  · refine (detN_alt n).memL ?_ hl
    have e : lf (R i) = rwF ((rowsF n R).take i) k := by
      rw [h, ← rowsF_get hk]; simp [rwF, List.getD, c]
    rw [e]; exact rwF_mem (by simp [rowsF_len]; omega)
end Go.Proofs.Ytnfnommiabalfaa
/- Rings of an order (in plain Lean; nothing of a program). -/
namespace Go.Proofs.Ytnfnommiabalfaa

/-- a step of an order, so many times -/
def itL (p : List Int) : Nat → Nat → Nat
  | 0, x => x
  | k + 1, x => (p.getD (itL p k x) 0).toNat
theorem itL_succ (p : List Int) (k x : Nat) : itL p (k + 1) x = (p.getD (itL p k x) 0).toNat := rfl
theorem itL_add (p : List Int) (i k x : Nat) : itL p (i + k) x = itL p i (itL p k x) := by
  induction i with
  | zero => rw [Nat.zero_add]; rfl
  | succ i ih => rw [show i + 1 + k = (i + k) + 1 by omega, itL_succ, itL_succ, ih]
variable {n : Nat} {p : List Int}
theorem Ord.it_lt (h : Ord n p) {x : Nat} (hx : x < n) (k : Nat) : itL p k x < n := by
  induction k with
  | zero => exact hx
  | succ k ih => have := h.get ih; rw [itL_succ]; omega
theorem Ord.step_inj (h : Ord n p) {x y : Nat} (hx : x < n) (hy : y < n) (e : (p.getD x 0).toNat = (p.getD y 0).toNat) : x = y := by
  have h1 := h.get hx
  have h2 := h.get hy
  exact h.inj hx hy (by omega)
theorem Ord.it_inj (h : Ord n p) {x y : Nat} (hx : x < n) (hy : y < n) (k : Nat) (e : itL p k x = itL p k y) : x = y := by
  induction k with
  | zero => exact e
  | succ k ih => exact ih (h.step_inj (h.it_lt hx k) (h.it_lt hy k) e)
/-- each number comes back -/
theorem Ord.comes_back (h : Ord n p) {x : Nat} (hx : x < n) : ∃ r, 1 ≤ r ∧ r ≤ n ∧ itL p r x = x := by
  by_cases hn : ((List.range (n + 1)).map fun k => ((itL p k x : Nat) : Int)).Nodup
  · exfalso
    have := nodup_len (r := upL n) hn fun y hy => by
      obtain ⟨k, _, rfl⟩ := List.mem_map.1 hy
      have := h.it_lt hx k
      exact upL_mem.2 (by omega)
    rw [upL_len] at this
    simp at this
    omega
  · rw [List.Nodup, List.pairwise_map, List.pairwise_iff_getElem] at hn
    simp only [List.length_range, List.getElem_range, Classical.not_forall] at hn
    obtain ⟨i, k, hi, hk, hik, e⟩ := hn
    have e' : itL p i x = itL p k x := by
      have := Classical.not_not.1 e
      omega
    refine ⟨k - i, by omega, by omega, ?_⟩
    rw [show k = i + (k - i) by omega, itL_add] at e'
    exact (h.it_inj hx (h.it_lt hx _) i e').symm
/-- how many steps a ring has -/
def perL (p : List Int) (x : Nat) : Nat := ((List.range p.length).findIdx? fun k => itL p (k + 1) x == x).getD 0 + 1
theorem Ord.per (h : Ord n p) {x : Nat} (hx : x < n) : 1 ≤ perL p x ∧ perL p x ≤ n ∧ itL p (perL p x) x = x ∧ ∀ k, 1 ≤ k → k < perL p x → itL p k x ≠ x := by
  obtain ⟨r, h1, h2, h3⟩ := h.comes_back hx
  have hl : p.length = n := h.len
  cases hf : (List.range p.length).findIdx? fun k => itL p (k + 1) x == x with
  | none =>
    rw [List.findIdx?_eq_none_iff] at hf
    have := hf (r - 1) (List.mem_range.2 (by omega))
    rw [show r - 1 + 1 = r by omega] at this
    simp [h3] at this
  | some k =>
    rw [List.findIdx?_eq_some_iff_getElem] at hf
    obtain ⟨hk, h4, h5⟩ := hf
    simp only [List.length_range] at hk
    simp only [List.getElem_range, beq_iff_eq] at h4
    unfold perL
    have e : ((List.range p.length).findIdx? fun k => itL p (k + 1) x == x) = some k := by
      rw [List.findIdx?_eq_some_iff_getElem]
      exact ⟨by simpa using hk, by simpa using h4, h5⟩
    rw [e]
    simp only [Option.getD_some]
    refine ⟨by omega, by omega, h4, fun j hj1 hj2 => ?_⟩
    have := h5 (j - 1) (by omega)
    simp only [List.getElem_range, show j - 1 + 1 = j by omega] at this
    simpa using this
/-- a number's ring, from it on -/
def ringL (p : List Int) (x : Nat) : List Int := tab (perL p x) fun k => (itL p k x : Int)
theorem ringL_len (p : List Int) (x : Nat) : (ringL p x).length = perL p x := tab_len _ _
theorem ringL_get {x k : Nat} (h : k < perL p x) : (ringL p x).getD k 0 = itL p k x := tab_get _ h
theorem ringL_mem {x : Nat} {y : Int} : y ∈ ringL p x ↔ ∃ k, k < perL p x ∧ y = itL p k x := by
  simp only [ringL, tab, List.mem_map, List.mem_range]
  exact ⟨fun ⟨k, h1, h2⟩ => ⟨k, h1, h2.symm⟩, fun ⟨k, h1, h2⟩ => ⟨k, h1, h2.symm⟩⟩
/-- so many rounds, and so many steps -/
theorem Ord.it_mod (h : Ord n p) {x : Nat} (hx : x < n) (k : Nat) : itL p k x = itL p (k % perL p x) x := by
  obtain ⟨h1, _, h3, _⟩ := h.per hx
  have hr : ∀ q, itL p (q * perL p x) x = x := fun q => by
    induction q with
    | zero => rw [Nat.zero_mul]; rfl
    | succ q ih => rw [Nat.succ_mul, itL_add, h3, ih]
  conv => lhs; rw [← Nat.mod_add_div k (perL p x), Nat.mul_comm, itL_add, hr]
theorem Ord.ring_mem (h : Ord n p) {x : Nat} (hx : x < n) (k : Nat) : (itL p k x : Int) ∈ ringL p x :=
  ringL_mem.2 ⟨k % perL p x, Nat.mod_lt _ (h.per hx).1, by rw [← h.it_mod hx]⟩
/-- who is in whose ring -/
theorem Ord.ring_back (h : Ord n p) {x y : Nat} (hx : x < n) (hy : (y : Int) ∈ ringL p x) : ∃ k, itL p k y = x := by
  obtain ⟨k, hk, e⟩ := ringL_mem.1 hy
  obtain ⟨_, _, h3, _⟩ := h.per hx
  have e' : y = itL p k x := by omega
  exact ⟨perL p x - k, by rw [e', ← itL_add, show perL p x - k + k = perL p x by omega, h3]⟩
theorem Ord.ring_nodup (h : Ord n p) {x : Nat} (hx : x < n) : (ringL p x).Nodup := by
  obtain ⟨_, _, _, h4⟩ := h.per hx
  unfold ringL tab List.Nodup
  rw [List.pairwise_map, List.pairwise_iff_getElem]
  simp only [List.length_range, List.getElem_range]
  intro i k _ hk hik e
  have e' : itL p i x = itL p (i + (k - i)) x := by rw [show i + (k - i) = k by omega]; omega
  rw [itL_add] at e'
  exact h4 (k - i) (by omega) (by omega) (h.it_inj hx (h.it_lt hx _) i e').symm
/-- is a number the least of its ring? -/
def leastB (p : List Int) (x : Nat) : Bool := (ringL p x).all fun y => decide ((x : Int) ≤ y)
theorem leastB_true {x : Nat} (h : leastB p x = true) {y : Int} (hy : y ∈ ringL p x) : (x : Int) ≤ y := by
  unfold leastB at h
  rw [List.all_eq_true] at h
  simpa using h y hy
/-- the rings of the numbers below one -/
def ringsTo (p : List Int) (n : Nat) : List (List Int) := ((List.range n).filter fun x => leastB p x).map (ringL p)
/-- the rings of an order -/
def ringsL (p : List Int) : List (List Int) := ringsTo p p.length
theorem ringsTo_succ (p : List Int) (n : Nat) : ringsTo p (n + 1) = if leastB p n then ringsTo p n ++ [ringL p n] else ringsTo p n := by
  unfold ringsTo
  rw [List.range_succ, List.filter_append]
  cases h : leastB p n <;> simp [h]
theorem ringsTo_mem {k : Nat} {l : List Int} : l ∈ ringsTo p k ↔ ∃ x, x < k ∧ leastB p x = true ∧ l = ringL p x := by
  simp only [ringsTo, List.mem_map, List.mem_filter, List.mem_range]
  exact ⟨fun ⟨x, ⟨h1, h2⟩, h3⟩ => ⟨x, h1, h2, h3.symm⟩, fun ⟨x, h1, h2, h3⟩ => ⟨x, ⟨h1, h2⟩, h3.symm⟩⟩
/-- each number's ring has a least one -/
theorem Ord.has_least (h : Ord n p) : ∀ m x : Nat, x ≤ m → x < n → ∃ s, s < n ∧ leastB p s = true ∧ (x : Int) ∈ ringL p s := by
  intro m
  induction m with
  | zero =>
    intro x hx hn
    obtain rfl : x = 0 := by omega
    refine ⟨0, hn, ?_, h.ring_mem hn 0⟩
    unfold leastB
    rw [List.all_eq_true]
    intro y hy
    obtain ⟨k, _, rfl⟩ := ringL_mem.1 hy
    simp
  | succ m ih =>
    intro x hx hn
    cases hl : leastB p x with
    | true => exact ⟨x, hn, hl, h.ring_mem hn 0⟩
    | false =>
      unfold leastB at hl
      rw [List.all_eq_false] at hl
      obtain ⟨y, hy, hlt⟩ := hl
      obtain ⟨k, hk, rfl⟩ := ringL_mem.1 hy
      have hlt : itL p k x < x := by simpa using hlt
      obtain ⟨s, h1, h2, h3⟩ := ih (itL p k x) (by omega) (h.it_lt hn k)
      refine ⟨s, h1, h2, ?_⟩
      obtain ⟨j, hj⟩ := h.ring_back hn hy
      obtain ⟨i, _, hi⟩ := ringL_mem.1 h3
      have hi : itL p k x = itL p i s := by omega
      have e : x = itL p (j + i) s := by rw [itL_add, ← hi, hj]
      rw [e]
      exact h.ring_mem h1 _
theorem Ord.rings_apart (h : Ord n p) {s t : Nat} (hs : s < n) (ht : t < n) (ls : leastB p s = true) (lt : leastB p t = true) {y : Int} (h1 : y ∈ ringL p s) (h2 : y ∈ ringL p t) : s = t := by
  obtain ⟨i, _, e1⟩ := ringL_mem.1 h1
  obtain ⟨k, _, e2⟩ := ringL_mem.1 h2
  have e : itL p i s = itL p k t := by omega
  obtain ⟨a, ha⟩ := h.ring_back hs (y := itL p i s) (by rw [← e1]; exact h1)
  obtain ⟨b, hb⟩ := h.ring_back ht (y := itL p k t) (by rw [← e2]; exact h2)
  have m1 := leastB_true lt (y := s) (by
    have := h.ring_mem ht (a + k)
    rwa [itL_add, ← e, ha] at this)
  have m2 := leastB_true ls (y := t) (by
    have := h.ring_mem hs (b + i)
    rwa [itL_add, e, hb] at this)
  omega
/-- all rings, one behind the other, have each number once -/
theorem Ord.rings_flat (h : Ord n p) : Ord n (ringsL p).flatten := by
  have hl : p.length = n := h.len
  refine Ord.of_perm (nodup_sub (upL_nodup n) (fun x hx => ?_) ?_)
  · obtain ⟨h1, h2⟩ := upL_mem.1 hx
    obtain ⟨s, hs, ls, hm⟩ := h.has_least x.toNat x.toNat (Nat.le_refl _) (by omega)
    rw [Int.toNat_of_nonneg h1] at hm
    exact List.mem_flatten.2 ⟨_, ringsTo_mem.2 ⟨s, by omega, ls, rfl⟩, hm⟩
  · rw [upL_len]
    have hn : (ringsL p).flatten.Nodup := by
      unfold ringsL
      rw [hl]
      have : ∀ k, k ≤ n → (ringsTo p k).flatten.Nodup := fun k => by
        induction k with
        | zero => intro _; simp [ringsTo]
        | succ k ih =>
          intro hk
          rw [ringsTo_succ]
          split
          case isTrue hlk =>
            rw [List.flatten_append, List.nodup_append]
            refine ⟨ih (by omega), by simpa using h.ring_nodup (by omega), fun a ha b hb e => ?_⟩
            subst e
            obtain ⟨l, hl1, hl2⟩ := List.mem_flatten.1 ha
            obtain ⟨x, hx, lx, rfl⟩ := ringsTo_mem.1 hl1
            have hb' : a ∈ ringL p k := by simpa using hb
            have := h.rings_apart (by omega) (by omega) lx hlk hl2 hb'
            omega
          case isFalse => exact ih (by omega)
      exact this n (Nat.le_refl _)
    have := nodup_len (r := upL n) hn fun y hy => by
      obtain ⟨l, hl1, hl2⟩ := List.mem_flatten.1 hy
      obtain ⟨x, hx, _, rfl⟩ := ringsTo_mem.1 hl1
      obtain ⟨k, _, rfl⟩ := ringL_mem.1 hl2
      have := h.it_lt (x := x) (by omega) k
      exact upL_mem.2 (by omega)
    rwa [upL_len] at this
/-- a step along a ring -/
theorem Ord.ring_step (h : Ord n p) {x : Nat} (hx : x < n) (k : Nat) : p.getD (itL p k x) 0 = itL p ((k + 1) % perL p x) x := by
  rw [← h.it_mod hx, itL_succ, Int.toNat_of_nonneg (h.get (h.it_lt hx k)).1]
end Go.Proofs.Ytnfnommiabalfaa
