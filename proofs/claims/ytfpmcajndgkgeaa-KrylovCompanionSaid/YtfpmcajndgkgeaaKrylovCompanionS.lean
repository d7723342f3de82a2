/- KrylovCompanion, where the law says nothing: whatever the number, the polynomial and the two matrices, the law answers true, and nothing that was there has turned. No condition. -/
import Derived.Test.YtfpmcajndgkgeaaLaw9
import Derived.Test.YtfpmcajndgkgeaaKryD
import Derived.Test.YtfpmcajndgkgeaaBun05
import Derived.Test.YtfpmcajndgkgeaaSvC
import Derived.Test.YtfpmcajndgkgeaaBun19
import Derived.Test.YtfpmcajndgkgeaaMx5
namespace Go.Proofs.Ytfpmcajndgkgeaa.krylovCompanion
open Go.ChangeShapes Go.WideShapes Go.ChangeAt Go.RowKit Go.Maps

/-- does the law go on? -/
noncomputable def goB (p : Int) (f xs ys : List Int) : Bool := decide (f.length ≤ 7) && (decide (xs.length ≤ 36) && (decide (ys.length ≤ 36) && takenB p))
set_option maxRecDepth 100000 in
set_option maxHeartbeats 2000000 in
theorem walk_skip (p r c r' c' : Int) (vf v u : Value) (f xs ys : List Int) (w : World) (h0 : 0 ≤ p) (hfv : Ints .u64 w vf f) (hv : Ints .u64 w v xs) (hu : Ints .u64 w u ys) (h : goB p f xs ys = false) :
    Calls Try.prog 6 #[.int .u64 p, vf, matV r c v, matV r' c' u] w (Ret (.bool true) w) := by
  have C1 := hid fun (W : World) => prime_any09 p W h0
  unfold goB at h
  obtain ⟨KF, e1⟩ : ∃ B, decide (f.length ≤ 7) = B := ⟨_, rfl⟩
  obtain ⟨KA, e2⟩ : ∃ B, decide (xs.length ≤ 36) = B := ⟨_, rfl⟩
  obtain ⟨KB, e3⟩ : ∃ B, decide (ys.length ≤ 36) = B := ⟨_, rfl⟩
  obtain ⟨T, e4⟩ : ∃ B, takenB p = B := ⟨_, rfl⟩
  rw [e4] at C1
  rw [e1, e2, e3, e4] at h
  have t1 : decide (7 < (f.length : Int)) = !KF := by rw [← e1]; by_cases e : f.length ≤ 7 <;> simp [e] <;> omega
  have t2 : decide (36 < (xs.length : Int)) = !KA := by rw [← e2]; by_cases e : xs.length ≤ 36 <;> simp [e] <;> omega
  have t3 : decide (36 < (ys.length : Int)) = !KB := by rw [← e3]; by_cases e : ys.length ≤ 36 <;> simp [e] <;> omega
  obtain ⟨af, cf, rfl, -, -, -⟩ := hfv
  obtain ⟨a, cap, rfl, k1, k2, k3⟩ := hv
  obtain ⟨a', cap', rfl, k1', k2', k3'⟩ := hu
  clear k3 k3' e1 e2 e3 e4
  have hb2 := hid (boxes2 w 25 25 #[.int .i64 r, .int .i64 c, .slice a xs.length cap] #[.int .i64 r', .int .i64 c', .slice a' ys.length cap'])
  have HA := hid hb2.out.1; have HB := hid hb2.out.2.1; have hW0 := hid hb2.out.2.2
  unfold matV
  have T_KF := hid t1; have T_KA := hid t2; have T_KB := hid t3; have H := hid h
  clear t1 t2 t3 h hb2
  cases KF with
  | false =>
    as_aux_lemma =>
      have t_KF := T_KF.out
      have t_KA := T_KA.out
      have t_KB := T_KB.out
      go_enter Try.func6, Try.ntmps6
      go_wp2_with fail
      refine (awake09 _).mono ?_
      rintro _ w1 ⟨rfl, xw1⟩
      obtain ⟨ha_0, ha_1, ha_2⟩ := (HA.out.ext xw1).at3
      obtain ⟨hb_0, hb_1, hb_2⟩ := (HB.out.ext xw1).at3
      go_wp2_with fail
      go_ret
      exact ⟨rfl, (hW0.out.trans xw1)⟩
  | true =>
    cases KA with
    | false =>
      as_aux_lemma =>
        have t_KF := T_KF.out
        have t_KA := T_KA.out
        have t_KB := T_KB.out
        go_enter Try.func6, Try.ntmps6
        go_wp2_with fail
        refine (awake09 _).mono ?_
        rintro _ w1 ⟨rfl, xw1⟩
        obtain ⟨ha_0, ha_1, ha_2⟩ := (HA.out.ext xw1).at3
        obtain ⟨hb_0, hb_1, hb_2⟩ := (HB.out.ext xw1).at3
        go_wp2_with fail
        go_ret
        exact ⟨rfl, (hW0.out.trans xw1)⟩
    | true =>
      cases KB with
      | false =>
        as_aux_lemma =>
          have t_KF := T_KF.out
          have t_KA := T_KA.out
          have t_KB := T_KB.out
          go_enter Try.func6, Try.ntmps6
          go_wp2_with fail
          refine (awake09 _).mono ?_
          rintro _ w1 ⟨rfl, xw1⟩
          obtain ⟨ha_0, ha_1, ha_2⟩ := (HA.out.ext xw1).at3
          obtain ⟨hb_0, hb_1, hb_2⟩ := (HB.out.ext xw1).at3
          go_wp2_with fail
          go_ret
          exact ⟨rfl, (hW0.out.trans xw1)⟩
      | true =>
        cases T with
        | false =>
          as_aux_lemma =>
            have t_KF := T_KF.out
            have t_KA := T_KA.out
            have t_KB := T_KB.out
            go_enter Try.func6, Try.ntmps6
            go_wp2_with fail
            refine (awake09 _).mono ?_
            rintro _ w1 ⟨rfl, xw1⟩
            obtain ⟨ha_0, ha_1, ha_2⟩ := (HA.out.ext xw1).at3
            obtain ⟨hb_0, hb_1, hb_2⟩ := (HB.out.ext xw1).at3
            go_wp2_with fail
            refine (C1.out _).mono ?_
            rintro _ _ ⟨rfl, rfl⟩
            go_wp2_with fail
            go_ret
            exact ⟨rfl, (hW0.out.trans xw1)⟩
        | true =>
          exact absurd H.out (by decide)
end Go.Proofs.Ytfpmcajndgkgeaa.krylovCompanion
