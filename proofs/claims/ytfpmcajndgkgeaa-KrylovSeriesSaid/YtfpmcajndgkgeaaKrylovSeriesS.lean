/- KrylovSeries, where the law says nothing: whatever the number, the matrix and the two vectors, the law answers true, and nothing that was there has turned. No condition. -/
import Derived.Test.YtfpmcajndgkgeaaLaw9
import Derived.Test.YtfpmcajndgkgeaaKryS
import Derived.Test.YtfpmcajndgkgeaaBun35
import Derived.Test.YtfpmcajndgkgeaaBun06
import Derived.Test.YtfpmcajndgkgeaaBun12
namespace Go.Proofs.Ytfpmcajndgkgeaa.krylovSeries
open Go.ChangeShapes Go.WideShapes Go.ChangeAt Go.RowKit Go.Maps

/-- does the law go on? -/
noncomputable def goB (p r c : Int) (xs d b : List Int) : Bool := decide (xs.length ≤ 36) && (takenB p && (matB p r c xs && (decide (r = c) && (hasB p d && (hasB p b && (decide ((d.length : Int) = r) && decide ((b.length : Int) = r)))))))
set_option maxRecDepth 100000 in
set_option maxHeartbeats 2000000 in
theorem walk_skip (p r c : Int) (v z u : Value) (xs d b : List Int) (w : World) (h0 : 0 ≤ p) (h1 : p ≤ 18446744073709551615) (hv : Ints .u64 w v xs) (hx : U64s xs) (hz : Ints .u64 w z d) (hd : U64s d) (hu : Ints .u64 w u b) (hb : U64s b) (h : goB p r c xs d b = false) :
    Calls Try.prog 7 #[.int .u64 p, matV r c v, z, u] w (Ret (.bool true) w) := by
  have C1 := hid fun (W : World) => prime_any09 p W h0
  have C2 := hid fun (W : World) (hW : Ext w W) => mxRight p r c v xs W h0 h1 (hv.ext hW) hx
  have C3 := hid fun (W : World) (hW : Ext w W) => has_any p z d W h0 h1 (hz.ext hW) hd
  have C5 := hid fun (W : World) (hW : Ext w W) => has_any p u b W h0 h1 (hu.ext hW) hb
  unfold goB at h
  obtain ⟨K, e1⟩ : ∃ B, decide (xs.length ≤ 36) = B := ⟨_, rfl⟩
  obtain ⟨T, e3⟩ : ∃ B, takenB p = B := ⟨_, rfl⟩
  obtain ⟨M, e4⟩ : ∃ B, matB p r c xs = B := ⟨_, rfl⟩
  obtain ⟨Q, e5⟩ : ∃ B, decide (r = c) = B := ⟨_, rfl⟩
  obtain ⟨SD, e6⟩ : ∃ B, hasB p d = B := ⟨_, rfl⟩
  obtain ⟨S, e8⟩ : ∃ B, hasB p b = B := ⟨_, rfl⟩
  obtain ⟨QD, e7⟩ : ∃ B, decide ((d.length : Int) = r) = B := ⟨_, rfl⟩
  obtain ⟨QL, e9⟩ : ∃ B, decide ((b.length : Int) = r) = B := ⟨_, rfl⟩
  rw [e3] at C1; rw [e4] at C2; rw [e6] at C3; rw [e8] at C5
  rw [e1, e3, e4, e5, e6, e7, e8, e9] at h
  have t1 : decide (36 < (xs.length : Int)) = !K := by rw [← e1]; by_cases e : xs.length ≤ 36 <;> simp [e] <;> omega
  have t4 : (r != c) = !Q := by rw [← e5]; rfl
  have t5 : ((b.length : Int) != r) = !QL := by rw [← e9]; rfl
  have t6 : ((d.length : Int) != r) = !QD := by rw [← e7]; rfl
  obtain ⟨a, cap, rfl, k1, k2, k3⟩ := hv
  obtain ⟨a2, c2, rfl, -, -, -⟩ := hz
  obtain ⟨a', cap', rfl, -, -, -⟩ := hu
  clear k3 hx hb hd e1 e3 e4 e5 e6 e7 e8 e9
  have HA := hid (Blk.new w 25 #[.int .i64 r, .int .i64 c, .slice a xs.length cap])
  have hW0 := hid ((Ext.refl w).alloc (.cells #[.int .i64 r, .int .i64 c, .slice a xs.length cap] 25))
  unfold matV at C2
  unfold matV
  have T_K := hid t1; have T_Q := hid t4; have T_QL := hid t5; have T_QD := hid t6; have H := hid h
  clear t1 t4 t5 t6 h
  cases K with
  | false =>
    as_aux_lemma =>
      have t_K := T_K.out
      have t_Q := T_Q.out
      have t_QD := T_QD.out
      have t_QL := T_QL.out
      go_enter Try.func7, Try.ntmps7
      go_wp2_with fail
      refine (awake09 _).mono ?_
      rintro _ w1 ⟨rfl, xw1⟩
      obtain ⟨ha_0, ha_1, ha_2⟩ := (HA.out.ext xw1).at3
      go_wp2_with fail
      go_ret
      exact ⟨rfl, (hW0.out.trans xw1)⟩
  | true =>
    cases T with
    | false =>
      as_aux_lemma =>
        have t_K := T_K.out
        have t_Q := T_Q.out
        have t_QD := T_QD.out
        have t_QL := T_QL.out
        go_enter Try.func7, Try.ntmps7
        go_wp2_with fail
        refine (awake09 _).mono ?_
        rintro _ w1 ⟨rfl, xw1⟩
        obtain ⟨ha_0, ha_1, ha_2⟩ := (HA.out.ext xw1).at3
        go_wp2_with fail
        refine (C1.out _).mono ?_
        rintro _ _ ⟨rfl, rfl⟩
        go_wp2_with fail
        go_ret
        exact ⟨rfl, (hW0.out.trans xw1)⟩
    | true =>
      cases M with
      | false =>
        as_aux_lemma =>
          have t_K := T_K.out
          have t_Q := T_Q.out
          have t_QD := T_QD.out
          have t_QL := T_QL.out
          go_enter Try.func7, Try.ntmps7
          go_wp2_with fail
          refine (awake09 _).mono ?_
          rintro _ w1 ⟨rfl, xw1⟩
          obtain ⟨ha_0, ha_1, ha_2⟩ := (HA.out.ext xw1).at3
          go_wp2_with fail
          refine (C1.out _).mono ?_
          rintro _ _ ⟨rfl, rfl⟩
          go_wp2_with fail
          refine (C2.out _ (hW0.out.trans xw1)).mono ?_
          rintro _ wc2 ⟨rfl, xc2⟩
          clear ha_0 ha_1 ha_2
          obtain ⟨ha_0, ha_1, ha_2⟩ := (HA.out.ext (xw1.trans xc2)).at3
          go_wp2_with fail
          go_ret
          exact ⟨rfl, (hW0.out.trans (xw1.trans xc2))⟩
      | true =>
        cases Q with
        | false =>
          as_aux_lemma =>
            have t_K := T_K.out
            have t_Q := T_Q.out
            have t_QD := T_QD.out
            have t_QL := T_QL.out
            go_enter Try.func7, Try.ntmps7
            go_wp2_with fail
            refine (awake09 _).mono ?_
            rintro _ w1 ⟨rfl, xw1⟩
            obtain ⟨ha_0, ha_1, ha_2⟩ := (HA.out.ext xw1).at3
            go_wp2_with fail
            refine (C1.out _).mono ?_
            rintro _ _ ⟨rfl, rfl⟩
            go_wp2_with fail
            refine (C2.out _ (hW0.out.trans xw1)).mono ?_
            rintro _ wc2 ⟨rfl, xc2⟩
            clear ha_0 ha_1 ha_2
            obtain ⟨ha_0, ha_1, ha_2⟩ := (HA.out.ext (xw1.trans xc2)).at3
            go_wp2_with fail
            go_ret
            exact ⟨rfl, (hW0.out.trans (xw1.trans xc2))⟩
        | true =>
          cases SD with
          | false =>
            as_aux_lemma =>
              have t_K := T_K.out
              have t_Q := T_Q.out
              have t_QD := T_QD.out
              have t_QL := T_QL.out
              go_enter Try.func7, Try.ntmps7
              go_wp2_with fail
              refine (awake09 _).mono ?_
              rintro _ w1 ⟨rfl, xw1⟩
              obtain ⟨ha_0, ha_1, ha_2⟩ := (HA.out.ext xw1).at3
              go_wp2_with fail
              refine (C1.out _).mono ?_
              rintro _ _ ⟨rfl, rfl⟩
              go_wp2_with fail
              refine (C2.out _ (hW0.out.trans xw1)).mono ?_
              rintro _ wc2 ⟨rfl, xc2⟩
              clear ha_0 ha_1 ha_2
              obtain ⟨ha_0, ha_1, ha_2⟩ := (HA.out.ext (xw1.trans xc2)).at3
              go_wp2_with fail
              refine (C3.out _ (hW0.out.trans (xw1.trans xc2))).mono ?_
              rintro _ _ ⟨rfl, rfl⟩
              go_wp2_with fail
              go_ret
              exact ⟨rfl, (hW0.out.trans (xw1.trans xc2))⟩
          | true =>
            cases S with
            | false =>
              as_aux_lemma =>
                have t_K := T_K.out
                have t_Q := T_Q.out
                have t_QD := T_QD.out
                have t_QL := T_QL.out
                go_enter Try.func7, Try.ntmps7
                go_wp2_with fail
                refine (awake09 _).mono ?_
                rintro _ w1 ⟨rfl, xw1⟩
                obtain ⟨ha_0, ha_1, ha_2⟩ := (HA.out.ext xw1).at3
                go_wp2_with fail
                refine (C1.out _).mono ?_
                rintro _ _ ⟨rfl, rfl⟩
                go_wp2_with fail
                refine (C2.out _ (hW0.out.trans xw1)).mono ?_
                rintro _ wc2 ⟨rfl, xc2⟩
                clear ha_0 ha_1 ha_2
                obtain ⟨ha_0, ha_1, ha_2⟩ := (HA.out.ext (xw1.trans xc2)).at3
                go_wp2_with fail
                refine (C3.out _ (hW0.out.trans (xw1.trans xc2))).mono ?_
                rintro _ _ ⟨rfl, rfl⟩
                go_wp2_with fail
                refine (C5.out _ (hW0.out.trans (xw1.trans xc2))).mono ?_
                rintro _ _ ⟨rfl, rfl⟩
                go_wp2_with fail
                go_ret
                exact ⟨rfl, (hW0.out.trans (xw1.trans xc2))⟩
            | true =>
              cases QD with
              | false =>
                as_aux_lemma =>
                  have t_K := T_K.out
                  have t_Q := T_Q.out
                  have t_QD := T_QD.out
                  have t_QL := T_QL.out
                  go_enter Try.func7, Try.ntmps7
                  go_wp2_with fail
                  refine (awake09 _).mono ?_
                  rintro _ w1 ⟨rfl, xw1⟩
                  obtain ⟨ha_0, ha_1, ha_2⟩ := (HA.out.ext xw1).at3
                  go_wp2_with fail
                  refine (C1.out _).mono ?_
                  rintro _ _ ⟨rfl, rfl⟩
                  go_wp2_with fail
                  refine (C2.out _ (hW0.out.trans xw1)).mono ?_
                  rintro _ wc2 ⟨rfl, xc2⟩
                  clear ha_0 ha_1 ha_2
                  obtain ⟨ha_0, ha_1, ha_2⟩ := (HA.out.ext (xw1.trans xc2)).at3
                  go_wp2_with fail
                  refine (C3.out _ (hW0.out.trans (xw1.trans xc2))).mono ?_
                  rintro _ _ ⟨rfl, rfl⟩
                  go_wp2_with fail
                  refine (C5.out _ (hW0.out.trans (xw1.trans xc2))).mono ?_
                  rintro _ _ ⟨rfl, rfl⟩
                  go_wp2_with fail
                  go_ret
                  exact ⟨rfl, (hW0.out.trans (xw1.trans xc2))⟩
              | true =>
                cases QL with
                | false =>
                  as_aux_lemma =>
                    have t_K := T_K.out
                    have t_Q := T_Q.out
                    have t_QD := T_QD.out
                    have t_QL := T_QL.out
                    go_enter Try.func7, Try.ntmps7
                    go_wp2_with fail
                    refine (awake09 _).mono ?_
                    rintro _ w1 ⟨rfl, xw1⟩
                    obtain ⟨ha_0, ha_1, ha_2⟩ := (HA.out.ext xw1).at3
                    go_wp2_with fail
                    refine (C1.out _).mono ?_
                    rintro _ _ ⟨rfl, rfl⟩
                    go_wp2_with fail
                    refine (C2.out _ (hW0.out.trans xw1)).mono ?_
                    rintro _ wc2 ⟨rfl, xc2⟩
                    clear ha_0 ha_1 ha_2
                    obtain ⟨ha_0, ha_1, ha_2⟩ := (HA.out.ext (xw1.trans xc2)).at3
                    go_wp2_with fail
                    refine (C3.out _ (hW0.out.trans (xw1.trans xc2))).mono ?_
                    rintro _ _ ⟨rfl, rfl⟩
                    go_wp2_with fail
                    refine (C5.out _ (hW0.out.trans (xw1.trans xc2))).mono ?_
                    rintro _ _ ⟨rfl, rfl⟩
                    go_wp2_with fail
                    go_ret
                    exact ⟨rfl, (hW0.out.trans (xw1.trans xc2))⟩
                | true =>
                  exact absurd H.out (by decide)
end Go.Proofs.Ytfpmcajndgkgeaa.krylovSeries
