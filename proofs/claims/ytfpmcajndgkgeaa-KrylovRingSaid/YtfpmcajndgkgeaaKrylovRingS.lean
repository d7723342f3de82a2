/- KrylovRing, where the law says nothing: whatever the number, the matrix, the two polynomials and the vector, the law answers true, and nothing that was there has turned. No condition. -/
import Derived.Test.YtfpmcajndgkgeaaLaw9
import Derived.Test.YtfpmcajndgkgeaaBun05
import Derived.Test.YtfpmcajndgkgeaaBun12
import Derived.Deep.RegionHeld3
namespace Go.Proofs.Ytfpmcajndgkgeaa.krylovRing
open Go.ChangeShapes Go.WideShapes Go.ChangeAt Go.RowKit Go.Maps

/-- does the law go on? -/
def goB (p r c : Int) (xs f g b : List Int) : Bool := decide (xs.length ≤ 64) && (decide (f.length ≤ 12) && (decide (g.length ≤ 12) && (matB p r c xs && (decide (r = c) && (rightPB p f && (rightPB p g && (hasB p b && decide ((b.length : Int) = r))))))))
set_option maxRecDepth 100000 in
set_option maxHeartbeats 2000000 in
theorem walk_skip (p r c : Int) (v vf vg u : Value) (xs f g b : List Int) (w : World) (h0 : 0 ≤ p) (h1 : p ≤ 18446744073709551615) (hv : Ints .u64 w v xs) (hx : U64s xs) (hfv : Ints .u64 w vf f) (hfx : U64s f) (hgv : Ints .u64 w vg g) (hgx : U64s g) (hu : Ints .u64 w u b) (hb : U64s b) (h : goB p r c xs f g b = false) :
    Calls Try.prog 8 #[.int .u64 p, matV r c v, vf, vg, u] w (Ret (.bool true) w) := by
  have C2 := hid fun (W : World) (hW : Ext w W) => mxRight p r c v xs W h0 h1 (hv.ext hW) hx
  have C3 := hid fun (W : World) (hW : Ext w W) => polRight_any p vf f W h0 h1 (hfv.ext hW) hfx
  have C4 := hid fun (W : World) (hW : Ext w W) => polRight_any p vg g W h0 h1 (hgv.ext hW) hgx
  have C5 := hid fun (W : World) (hW : Ext w W) => has_any p u b W h0 h1 (hu.ext hW) hb
  unfold goB at h
  obtain ⟨K, e1⟩ : ∃ B, decide (xs.length ≤ 64) = B := ⟨_, rfl⟩
  obtain ⟨KF, e2⟩ : ∃ B, decide (f.length ≤ 12) = B := ⟨_, rfl⟩
  obtain ⟨KG, e3⟩ : ∃ B, decide (g.length ≤ 12) = B := ⟨_, rfl⟩
  obtain ⟨M, e4⟩ : ∃ B, matB p r c xs = B := ⟨_, rfl⟩
  obtain ⟨Q, e5⟩ : ∃ B, decide (r = c) = B := ⟨_, rfl⟩
  obtain ⟨PF, e6⟩ : ∃ B, rightPB p f = B := ⟨_, rfl⟩
  obtain ⟨PG, e7⟩ : ∃ B, rightPB p g = B := ⟨_, rfl⟩
  obtain ⟨S, e8⟩ : ∃ B, hasB p b = B := ⟨_, rfl⟩
  obtain ⟨QL, e9⟩ : ∃ B, decide ((b.length : Int) = r) = B := ⟨_, rfl⟩
  rw [e4] at C2; rw [e6] at C3; rw [e7] at C4; rw [e8] at C5
  rw [e1, e2, e3, e4, e5, e6, e7, e8, e9] at h
  have t1 : decide (64 < (xs.length : Int)) = !K := by rw [← e1]; by_cases e : xs.length ≤ 64 <;> simp [e] <;> omega
  have t2 : decide (12 < (f.length : Int)) = !KF := by rw [← e2]; by_cases e : f.length ≤ 12 <;> simp [e] <;> omega
  have t3 : decide (12 < (g.length : Int)) = !KG := by rw [← e3]; by_cases e : g.length ≤ 12 <;> simp [e] <;> omega
  have t4 : (r != c) = !Q := by rw [← e5]; rfl
  have t5 : ((b.length : Int) != r) = !QL := by rw [← e9]; rfl
  obtain ⟨a, cap, rfl, k1, k2, k3⟩ := hv
  obtain ⟨af, cf, rfl, -, -, -⟩ := hfv
  obtain ⟨ag, cg, rfl, -, -, -⟩ := hgv
  obtain ⟨a', cap', rfl, -, -, -⟩ := hu
  clear k3 hx hb hfx hgx e1 e2 e3 e4 e5 e6 e7 e8 e9
  have HA := hid (Blk.new w 25 #[.int .i64 r, .int .i64 c, .slice a xs.length cap])
  have hW0 := hid ((Ext.refl w).alloc (.cells #[.int .i64 r, .int .i64 c, .slice a xs.length cap] 25))
  unfold matV at C2
  unfold matV
  have T_K := hid t1; have T_KF := hid t2; have T_KG := hid t3; have T_Q := hid t4; have T_QL := hid t5; have H := hid h
  clear t1 t2 t3 t4 t5 h
  cases K with
  | false =>
    as_aux_lemma =>
      have t_K := T_K.out
      have t_KF := T_KF.out
      have t_KG := T_KG.out
      have t_Q := T_Q.out
      have t_QL := T_QL.out
      go_enter Try.func8, Try.ntmps8
      go_wp2_with fail
      refine (awake09 _).mono ?_
      rintro _ w1 ⟨rfl, xw1⟩
      obtain ⟨ha_0, ha_1, ha_2⟩ := (HA.out.ext xw1).at3
      go_wp2_with fail
      go_ret
      exact ⟨rfl, (hW0.out.trans xw1)⟩
  | true =>
    cases KF with
    | false =>
      as_aux_lemma =>
        have t_K := T_K.out
        have t_KF := T_KF.out
        have t_KG := T_KG.out
        have t_Q := T_Q.out
        have t_QL := T_QL.out
        go_enter Try.func8, Try.ntmps8
        go_wp2_with fail
        refine (awake09 _).mono ?_
        rintro _ w1 ⟨rfl, xw1⟩
        obtain ⟨ha_0, ha_1, ha_2⟩ := (HA.out.ext xw1).at3
        go_wp2_with fail
        go_ret
        exact ⟨rfl, (hW0.out.trans xw1)⟩
    | true =>
      cases KG with
      | false =>
        as_aux_lemma =>
          have t_K := T_K.out
          have t_KF := T_KF.out
          have t_KG := T_KG.out
          have t_Q := T_Q.out
          have t_QL := T_QL.out
          go_enter Try.func8, Try.ntmps8
          go_wp2_with fail
          refine (awake09 _).mono ?_
          rintro _ w1 ⟨rfl, xw1⟩
          obtain ⟨ha_0, ha_1, ha_2⟩ := (HA.out.ext xw1).at3
          go_wp2_with fail
          go_ret
          exact ⟨rfl, (hW0.out.trans xw1)⟩
      | true =>
        cases M with
        | false =>
          as_aux_lemma =>
            have t_K := T_K.out
            have t_KF := T_KF.out
            have t_KG := T_KG.out
            have t_Q := T_Q.out
            have t_QL := T_QL.out
            go_enter Try.func8, Try.ntmps8
            go_wp2_with fail
            refine (awake09 _).mono ?_
            rintro _ w1 ⟨rfl, xw1⟩
            obtain ⟨ha_0, ha_1, ha_2⟩ := (HA.out.ext xw1).at3
            go_wp2_with fail
            refine (C2.out _ (hW0.out.trans xw1)).mono ?_
            rintro _ wc3 ⟨rfl, xc3⟩
            clear ha_0 ha_1 ha_2
            obtain ⟨ha_0, ha_1, ha_2⟩ := (HA.out.ext (xw1.trans xc3)).at3
            go_wp2_with fail
            go_ret
            exact ⟨rfl, (hW0.out.trans (xw1.trans xc3))⟩
        | true =>
          cases Q with
          | false =>
            as_aux_lemma =>
              have t_K := T_K.out
              have t_KF := T_KF.out
              have t_KG := T_KG.out
              have t_Q := T_Q.out
              have t_QL := T_QL.out
              go_enter Try.func8, Try.ntmps8
              go_wp2_with fail
              refine (awake09 _).mono ?_
              rintro _ w1 ⟨rfl, xw1⟩
              obtain ⟨ha_0, ha_1, ha_2⟩ := (HA.out.ext xw1).at3
              go_wp2_with fail
              refine (C2.out _ (hW0.out.trans xw1)).mono ?_
              rintro _ wc3 ⟨rfl, xc3⟩
              clear ha_0 ha_1 ha_2
              obtain ⟨ha_0, ha_1, ha_2⟩ := (HA.out.ext (xw1.trans xc3)).at3
              go_wp2_with fail
              go_ret
              exact ⟨rfl, (hW0.out.trans (xw1.trans xc3))⟩
          | true =>
            cases PF with
            | false =>
              as_aux_lemma =>
                have t_K := T_K.out
                have t_KF := T_KF.out
                have t_KG := T_KG.out
                have t_Q := T_Q.out
                have t_QL := T_QL.out
                go_enter Try.func8, Try.ntmps8
                go_wp2_with fail
                refine (awake09 _).mono ?_
                rintro _ w1 ⟨rfl, xw1⟩
                obtain ⟨ha_0, ha_1, ha_2⟩ := (HA.out.ext xw1).at3
                go_wp2_with fail
                refine (C2.out _ (hW0.out.trans xw1)).mono ?_
                rintro _ wc3 ⟨rfl, xc3⟩
                clear ha_0 ha_1 ha_2
                obtain ⟨ha_0, ha_1, ha_2⟩ := (HA.out.ext (xw1.trans xc3)).at3
                go_wp2_with fail
                refine (C3.out _ (hW0.out.trans (xw1.trans xc3))).mono ?_
                rintro _ _ ⟨rfl, rfl⟩
                go_wp2_with fail
                go_ret
                exact ⟨rfl, (hW0.out.trans (xw1.trans xc3))⟩
            | true =>
              cases PG with
              | false =>
                as_aux_lemma =>
                  have t_K := T_K.out
                  have t_KF := T_KF.out
                  have t_KG := T_KG.out
                  have t_Q := T_Q.out
                  have t_QL := T_QL.out
                  go_enter Try.func8, Try.ntmps8
                  go_wp2_with fail
                  refine (awake09 _).mono ?_
                  rintro _ w1 ⟨rfl, xw1⟩
                  obtain ⟨ha_0, ha_1, ha_2⟩ := (HA.out.ext xw1).at3
                  go_wp2_with fail
                  refine (C2.out _ (hW0.out.trans xw1)).mono ?_
                  rintro _ wc3 ⟨rfl, xc3⟩
                  clear ha_0 ha_1 ha_2
                  obtain ⟨ha_0, ha_1, ha_2⟩ := (HA.out.ext (xw1.trans xc3)).at3
                  go_wp2_with fail
                  refine (C3.out _ (hW0.out.trans (xw1.trans xc3))).mono ?_
                  rintro _ _ ⟨rfl, rfl⟩
                  go_wp2_with fail
                  refine (C4.out _ (hW0.out.trans (xw1.trans xc3))).mono ?_
                  rintro _ _ ⟨rfl, rfl⟩
                  go_wp2_with fail
                  go_ret
                  exact ⟨rfl, (hW0.out.trans (xw1.trans xc3))⟩
              | true =>
                cases S with
                | false =>
                  as_aux_lemma =>
                    have t_K := T_K.out
                    have t_KF := T_KF.out
                    have t_KG := T_KG.out
                    have t_Q := T_Q.out
                    have t_QL := T_QL.out
                    go_enter Try.func8, Try.ntmps8
                    go_wp2_with fail
                    refine (awake09 _).mono ?_
                    rintro _ w1 ⟨rfl, xw1⟩
                    obtain ⟨ha_0, ha_1, ha_2⟩ := (HA.out.ext xw1).at3
                    go_wp2_with fail
                    refine (C2.out _ (hW0.out.trans xw1)).mono ?_
                    rintro _ wc3 ⟨rfl, xc3⟩
                    clear ha_0 ha_1 ha_2
                    obtain ⟨ha_0, ha_1, ha_2⟩ := (HA.out.ext (xw1.trans xc3)).at3
                    go_wp2_with fail
                    refine (C3.out _ (hW0.out.trans (xw1.trans xc3))).mono ?_
                    rintro _ _ ⟨rfl, rfl⟩
                    go_wp2_with fail
                    refine (C4.out _ (hW0.out.trans (xw1.trans xc3))).mono ?_
                    rintro _ _ ⟨rfl, rfl⟩
                    go_wp2_with fail
                    refine (C5.out _ (hW0.out.trans (xw1.trans xc3))).mono ?_
                    rintro _ _ ⟨rfl, rfl⟩
                    go_wp2_with fail
                    go_ret
                    exact ⟨rfl, (hW0.out.trans (xw1.trans xc3))⟩
                | true =>
                  cases QL with
                  | false =>
                    as_aux_lemma =>
                      have t_K := T_K.out
                      have t_KF := T_KF.out
                      have t_KG := T_KG.out
                      have t_Q := T_Q.out
                      have t_QL := T_QL.out
                      go_enter Try.func8, Try.ntmps8
                      go_wp2_with fail
                      refine (awake09 _).mono ?_
                      rintro _ w1 ⟨rfl, xw1⟩
                      obtain ⟨ha_0, ha_1, ha_2⟩ := (HA.out.ext xw1).at3
                      go_wp2_with fail
                      refine (C2.out _ (hW0.out.trans xw1)).mono ?_
                      rintro _ wc3 ⟨rfl, xc3⟩
                      clear ha_0 ha_1 ha_2
                      obtain ⟨ha_0, ha_1, ha_2⟩ := (HA.out.ext (xw1.trans xc3)).at3
                      go_wp2_with fail
                      refine (C3.out _ (hW0.out.trans (xw1.trans xc3))).mono ?_
                      rintro _ _ ⟨rfl, rfl⟩
                      go_wp2_with fail
                      refine (C4.out _ (hW0.out.trans (xw1.trans xc3))).mono ?_
                      rintro _ _ ⟨rfl, rfl⟩
                      go_wp2_with fail
                      refine (C5.out _ (hW0.out.trans (xw1.trans xc3))).mono ?_
                      rintro _ _ ⟨rfl, rfl⟩
                      go_wp2_with fail
                      go_ret
                      exact ⟨rfl, (hW0.out.trans (xw1.trans xc3))⟩
                  | true =>
                    exact absurd H.out (by decide)
end Go.Proofs.Ytfpmcajndgkgeaa.krylovRing
