/- MatrixApplies: whatever the number, the two matrices and the two vectors, the law answers true, and nothing that was there has turned. No condition. -/
import Derived.Test.YtlociefncogjeaaAwake05
import Derived.Test.YtlociefncogjeaaOpenMat
import Derived.Test.YtlociefncogjeaaMatOk
namespace Go.Proofs.Ytlociefncogjeaa.matrixApplies
open Go.ChangeShapes Go.WideShapes Go.ChangeAt Go.RowKit Go.Maps

set_option maxRecDepth 100000 in
set_option maxHeartbeats 4000000 in
theorem walk_skip (p r c r' c' : Int) (v u vx vy : Value) (xs ys zs ts : List Int) (w : World) (h0 : 0 ≤ p) (h1 : p ≤ 18446744073709551615) (hv : Ints .u64 w v xs) (hx : U64s xs) (hu : Ints .u64 w u ys) (hy : U64s ys) (hz : Ints .u64 w vx zs) (hzu : U64s zs) (ht : Ints .u64 w vy ts) (htu : U64s ts)
    (h : (decide (xs.length ≤ 150) && decide (ys.length ≤ 150) && matB p r c xs && matB p r' c' ys && decide (c = r') && decide ((zs.length : Int) = c') && decide ((ts.length : Int) = r) && hasB p zs && hasB p ts) = false) :
    Calls Try.prog 5 #[.int .u64 p, matV r c v, matV r' c' u, vx, vy] w (Ret (.bool true) w) := by
  have CS1 := hid fun (W : World) (hW : Ext w W) => rmShort r c v xs W (hv.ext hW)
  have CS2 := hid fun (W : World) (hW : Ext w W) => rmShort r' c' u ys W (hu.ext hW)
  have CR1 := hid fun (W : World) (hW : Ext w W) => mxRight p r c v xs W h0 h1 (hv.ext hW) hx
  have CR2 := hid fun (W : World) (hW : Ext w W) => mxRight p r' c' u ys W h0 h1 (hu.ext hW) hy
  have CH1 := hid fun (W : World) (hW : Ext w W) => has_any p vx zs W h0 h1 (hz.ext hW) hzu
  have CH2 := hid fun (W : World) (hW : Ext w W) => has_any p vy ts W h0 h1 (ht.ext hW) htu
  obtain ⟨S1, e1⟩ : ∃ B, decide (xs.length ≤ 150) = B := ⟨_, rfl⟩
  obtain ⟨S2, e2⟩ : ∃ B, decide (ys.length ≤ 150) = B := ⟨_, rfl⟩
  obtain ⟨R1, e3⟩ : ∃ B, matB p r c xs = B := ⟨_, rfl⟩
  obtain ⟨R2, e4⟩ : ∃ B, matB p r' c' ys = B := ⟨_, rfl⟩
  obtain ⟨C, e5⟩ : ∃ B, decide (c = r') = B := ⟨_, rfl⟩
  obtain ⟨X, e6⟩ : ∃ B, decide ((zs.length : Int) = c') = B := ⟨_, rfl⟩
  obtain ⟨Y, e7⟩ : ∃ B, decide ((ts.length : Int) = r) = B := ⟨_, rfl⟩
  obtain ⟨H1, e8⟩ : ∃ B, hasB p zs = B := ⟨_, rfl⟩
  obtain ⟨H2, e9⟩ : ∃ B, hasB p ts = B := ⟨_, rfl⟩
  rw [e1] at CS1 h; rw [e2] at CS2 h; rw [e3] at CR1 h; rw [e4] at CR2 h; rw [e5, e6, e7] at h; rw [e8] at CH1 h; rw [e9] at CH2 h
  have t5 : (c != r') = !C := by rw [← e5]; by_cases e : c = r' <;> simp [e]
  have t6 : ((zs.length : Int) != c') = !X := by rw [← e6]; by_cases e : (zs.length : Int) = c' <;> simp [e]
  have t7 : ((ts.length : Int) != r) = !Y := by rw [← e7]; by_cases e : (ts.length : Int) = r <;> simp [e]
  obtain ⟨a, cap, rfl, k1, k2, k3⟩ := hv
  obtain ⟨a', cap', rfl, k1', k2', k3'⟩ := hu
  obtain ⟨ax, capx, rfl, l1, l2, l3⟩ := hz
  obtain ⟨ay, capy, rfl, m1, m2, m3⟩ := ht
  have hb := hid (boxes2 w 25 25 #[.int .i64 r, .int .i64 c, .slice a xs.length cap] #[.int .i64 r', .int .i64 c', .slice a' ys.length cap'])
  have HA := hid hb.out.1
  have HB := hid hb.out.2.1
  clear k3 k3' l3 m3 hx hy hzu htu e1 e2 e3 e4 e5 e6 e7 e8 e9
  unfold matV at CS1 CS2 CR1 CR2
  unfold matV
  cases S1 with
  | false =>
    clear h
    as_aux_lemma =>
      go_enter Try.func5, Try.ntmps5
      go_wp2_with (first
        | (go_at_call 8; refine (awake05 _).mono ?_; rintro _ w1 ⟨rfl, x1⟩; have y1 : Ext w w1 := hb.out.2.2.trans x1; obtain ⟨a0, a1, a2⟩ := (HA.out.ext x1).at3; obtain ⟨b0, b1, b2⟩ := (HB.out.ext x1).at3)
        | (go_at_call_of 9 a; refine (CS1.out w1 y1).mono ?_; rintro _ w2 ⟨rfl, x2⟩; have y2 := y1.trans x2; clear a0 a1 a2 b0 b1 b2; obtain ⟨a0, a1, a2⟩ := (HA.out.ext (x1.trans x2)).at3; obtain ⟨b0, b1, b2⟩ := (HB.out.ext (x1.trans x2)).at3)
        | fail)
      go_ret
      exact ⟨rfl, y2⟩
  | true =>
    cases S2 with
    | false =>
      clear h
      as_aux_lemma =>
        go_enter Try.func5, Try.ntmps5
        go_wp2_with (first
          | (go_at_call 8; refine (awake05 _).mono ?_; rintro _ w1 ⟨rfl, x1⟩; have y1 : Ext w w1 := hb.out.2.2.trans x1; obtain ⟨a0, a1, a2⟩ := (HA.out.ext x1).at3; obtain ⟨b0, b1, b2⟩ := (HB.out.ext x1).at3)
          | (go_at_call_of 9 a; refine (CS1.out w1 y1).mono ?_; rintro _ w2 ⟨rfl, x2⟩; have y2 := y1.trans x2; clear a0 a1 a2 b0 b1 b2; obtain ⟨a0, a1, a2⟩ := (HA.out.ext (x1.trans x2)).at3; obtain ⟨b0, b1, b2⟩ := (HB.out.ext (x1.trans x2)).at3)
          | (go_at_call_of 9 a'; refine (CS2.out w2 y2).mono ?_; rintro _ w3 ⟨rfl, x3⟩; have y3 := y2.trans x3; clear a0 a1 a2 b0 b1 b2; obtain ⟨a0, a1, a2⟩ := (HA.out.ext ((x1.trans x2).trans x3)).at3; obtain ⟨b0, b1, b2⟩ := (HB.out.ext ((x1.trans x2).trans x3)).at3)
          | fail)
        go_ret
        exact ⟨rfl, y3⟩
    | true =>
      cases R1 with
      | false =>
        clear h
        as_aux_lemma =>
          go_enter Try.func5, Try.ntmps5
          go_wp2_with (first
            | (go_at_call 8; refine (awake05 _).mono ?_; rintro _ w1 ⟨rfl, x1⟩; have y1 : Ext w w1 := hb.out.2.2.trans x1; obtain ⟨a0, a1, a2⟩ := (HA.out.ext x1).at3; obtain ⟨b0, b1, b2⟩ := (HB.out.ext x1).at3)
            | (go_at_call_of 9 a; refine (CS1.out w1 y1).mono ?_; rintro _ w2 ⟨rfl, x2⟩; have y2 := y1.trans x2; clear a0 a1 a2 b0 b1 b2; obtain ⟨a0, a1, a2⟩ := (HA.out.ext (x1.trans x2)).at3; obtain ⟨b0, b1, b2⟩ := (HB.out.ext (x1.trans x2)).at3)
            | (go_at_call_of 9 a'; refine (CS2.out w2 y2).mono ?_; rintro _ w3 ⟨rfl, x3⟩; have y3 := y2.trans x3; clear a0 a1 a2 b0 b1 b2; obtain ⟨a0, a1, a2⟩ := (HA.out.ext ((x1.trans x2).trans x3)).at3; obtain ⟨b0, b1, b2⟩ := (HB.out.ext ((x1.trans x2).trans x3)).at3)
            | (go_at_call_of 17 a; refine (CR1.out w3 y3).mono ?_; rintro _ w4 ⟨rfl, x4⟩; have y4 := y3.trans x4; clear a0 a1 a2 b0 b1 b2; obtain ⟨a0, a1, a2⟩ := (HA.out.ext (((x1.trans x2).trans x3).trans x4)).at3; obtain ⟨b0, b1, b2⟩ := (HB.out.ext (((x1.trans x2).trans x3).trans x4)).at3)
            | fail)
          go_ret
          exact ⟨rfl, y4⟩
      | true =>
        cases R2 with
        | false =>
          clear h
          as_aux_lemma =>
            go_enter Try.func5, Try.ntmps5
            go_wp2_with (first
              | (go_at_call 8; refine (awake05 _).mono ?_; rintro _ w1 ⟨rfl, x1⟩; have y1 : Ext w w1 := hb.out.2.2.trans x1; obtain ⟨a0, a1, a2⟩ := (HA.out.ext x1).at3; obtain ⟨b0, b1, b2⟩ := (HB.out.ext x1).at3)
              | (go_at_call_of 9 a; refine (CS1.out w1 y1).mono ?_; rintro _ w2 ⟨rfl, x2⟩; have y2 := y1.trans x2; clear a0 a1 a2 b0 b1 b2; obtain ⟨a0, a1, a2⟩ := (HA.out.ext (x1.trans x2)).at3; obtain ⟨b0, b1, b2⟩ := (HB.out.ext (x1.trans x2)).at3)
              | (go_at_call_of 9 a'; refine (CS2.out w2 y2).mono ?_; rintro _ w3 ⟨rfl, x3⟩; have y3 := y2.trans x3; clear a0 a1 a2 b0 b1 b2; obtain ⟨a0, a1, a2⟩ := (HA.out.ext ((x1.trans x2).trans x3)).at3; obtain ⟨b0, b1, b2⟩ := (HB.out.ext ((x1.trans x2).trans x3)).at3)
              | (go_at_call_of 17 a; refine (CR1.out w3 y3).mono ?_; rintro _ w4 ⟨rfl, x4⟩; have y4 := y3.trans x4; clear a0 a1 a2 b0 b1 b2; obtain ⟨a0, a1, a2⟩ := (HA.out.ext (((x1.trans x2).trans x3).trans x4)).at3; obtain ⟨b0, b1, b2⟩ := (HB.out.ext (((x1.trans x2).trans x3).trans x4)).at3)
              | (go_at_call_of 17 a'; refine (CR2.out w4 y4).mono ?_; rintro _ w5 ⟨rfl, x5⟩; have y5 := y4.trans x5; clear a0 a1 a2 b0 b1 b2; obtain ⟨a0, a1, a2⟩ := (HA.out.ext ((((x1.trans x2).trans x3).trans x4).trans x5)).at3; obtain ⟨b0, b1, b2⟩ := (HB.out.ext ((((x1.trans x2).trans x3).trans x4).trans x5)).at3)
              | fail)
            go_ret
            exact ⟨rfl, y5⟩
        | true =>
          cases C with
          | false =>
            clear h
            as_aux_lemma =>
              go_enter Try.func5, Try.ntmps5
              go_wp2_with (first
                | (go_at_call 8; refine (awake05 _).mono ?_; rintro _ w1 ⟨rfl, x1⟩; have y1 : Ext w w1 := hb.out.2.2.trans x1; obtain ⟨a0, a1, a2⟩ := (HA.out.ext x1).at3; obtain ⟨b0, b1, b2⟩ := (HB.out.ext x1).at3)
                | (go_at_call_of 9 a; refine (CS1.out w1 y1).mono ?_; rintro _ w2 ⟨rfl, x2⟩; have y2 := y1.trans x2; clear a0 a1 a2 b0 b1 b2; obtain ⟨a0, a1, a2⟩ := (HA.out.ext (x1.trans x2)).at3; obtain ⟨b0, b1, b2⟩ := (HB.out.ext (x1.trans x2)).at3)
                | (go_at_call_of 9 a'; refine (CS2.out w2 y2).mono ?_; rintro _ w3 ⟨rfl, x3⟩; have y3 := y2.trans x3; clear a0 a1 a2 b0 b1 b2; obtain ⟨a0, a1, a2⟩ := (HA.out.ext ((x1.trans x2).trans x3)).at3; obtain ⟨b0, b1, b2⟩ := (HB.out.ext ((x1.trans x2).trans x3)).at3)
                | (go_at_call_of 17 a; refine (CR1.out w3 y3).mono ?_; rintro _ w4 ⟨rfl, x4⟩; have y4 := y3.trans x4; clear a0 a1 a2 b0 b1 b2; obtain ⟨a0, a1, a2⟩ := (HA.out.ext (((x1.trans x2).trans x3).trans x4)).at3; obtain ⟨b0, b1, b2⟩ := (HB.out.ext (((x1.trans x2).trans x3).trans x4)).at3)
                | (go_at_call_of 17 a'; refine (CR2.out w4 y4).mono ?_; rintro _ w5 ⟨rfl, x5⟩; have y5 := y4.trans x5; clear a0 a1 a2 b0 b1 b2; obtain ⟨a0, a1, a2⟩ := (HA.out.ext ((((x1.trans x2).trans x3).trans x4).trans x5)).at3; obtain ⟨b0, b1, b2⟩ := (HB.out.ext ((((x1.trans x2).trans x3).trans x4).trans x5)).at3)
                | fail)
              go_ret
              exact ⟨rfl, y5⟩
          | true =>
            cases X with
            | false =>
              clear h
              as_aux_lemma =>
                go_enter Try.func5, Try.ntmps5
                go_wp2_with (first
                  | (go_at_call 8; refine (awake05 _).mono ?_; rintro _ w1 ⟨rfl, x1⟩; have y1 : Ext w w1 := hb.out.2.2.trans x1; obtain ⟨a0, a1, a2⟩ := (HA.out.ext x1).at3; obtain ⟨b0, b1, b2⟩ := (HB.out.ext x1).at3)
                  | (go_at_call_of 9 a; refine (CS1.out w1 y1).mono ?_; rintro _ w2 ⟨rfl, x2⟩; have y2 := y1.trans x2; clear a0 a1 a2 b0 b1 b2; obtain ⟨a0, a1, a2⟩ := (HA.out.ext (x1.trans x2)).at3; obtain ⟨b0, b1, b2⟩ := (HB.out.ext (x1.trans x2)).at3)
                  | (go_at_call_of 9 a'; refine (CS2.out w2 y2).mono ?_; rintro _ w3 ⟨rfl, x3⟩; have y3 := y2.trans x3; clear a0 a1 a2 b0 b1 b2; obtain ⟨a0, a1, a2⟩ := (HA.out.ext ((x1.trans x2).trans x3)).at3; obtain ⟨b0, b1, b2⟩ := (HB.out.ext ((x1.trans x2).trans x3)).at3)
                  | (go_at_call_of 17 a; refine (CR1.out w3 y3).mono ?_; rintro _ w4 ⟨rfl, x4⟩; have y4 := y3.trans x4; clear a0 a1 a2 b0 b1 b2; obtain ⟨a0, a1, a2⟩ := (HA.out.ext (((x1.trans x2).trans x3).trans x4)).at3; obtain ⟨b0, b1, b2⟩ := (HB.out.ext (((x1.trans x2).trans x3).trans x4)).at3)
                  | (go_at_call_of 17 a'; refine (CR2.out w4 y4).mono ?_; rintro _ w5 ⟨rfl, x5⟩; have y5 := y4.trans x5; clear a0 a1 a2 b0 b1 b2; obtain ⟨a0, a1, a2⟩ := (HA.out.ext ((((x1.trans x2).trans x3).trans x4).trans x5)).at3; obtain ⟨b0, b1, b2⟩ := (HB.out.ext ((((x1.trans x2).trans x3).trans x4).trans x5)).at3)
                  | fail)
                go_ret
                exact ⟨rfl, y5⟩
            | true =>
              cases Y with
              | false =>
                clear h
                as_aux_lemma =>
                  go_enter Try.func5, Try.ntmps5
                  go_wp2_with (first
                    | (go_at_call 8; refine (awake05 _).mono ?_; rintro _ w1 ⟨rfl, x1⟩; have y1 : Ext w w1 := hb.out.2.2.trans x1; obtain ⟨a0, a1, a2⟩ := (HA.out.ext x1).at3; obtain ⟨b0, b1, b2⟩ := (HB.out.ext x1).at3)
                    | (go_at_call_of 9 a; refine (CS1.out w1 y1).mono ?_; rintro _ w2 ⟨rfl, x2⟩; have y2 := y1.trans x2; clear a0 a1 a2 b0 b1 b2; obtain ⟨a0, a1, a2⟩ := (HA.out.ext (x1.trans x2)).at3; obtain ⟨b0, b1, b2⟩ := (HB.out.ext (x1.trans x2)).at3)
                    | (go_at_call_of 9 a'; refine (CS2.out w2 y2).mono ?_; rintro _ w3 ⟨rfl, x3⟩; have y3 := y2.trans x3; clear a0 a1 a2 b0 b1 b2; obtain ⟨a0, a1, a2⟩ := (HA.out.ext ((x1.trans x2).trans x3)).at3; obtain ⟨b0, b1, b2⟩ := (HB.out.ext ((x1.trans x2).trans x3)).at3)
                    | (go_at_call_of 17 a; refine (CR1.out w3 y3).mono ?_; rintro _ w4 ⟨rfl, x4⟩; have y4 := y3.trans x4; clear a0 a1 a2 b0 b1 b2; obtain ⟨a0, a1, a2⟩ := (HA.out.ext (((x1.trans x2).trans x3).trans x4)).at3; obtain ⟨b0, b1, b2⟩ := (HB.out.ext (((x1.trans x2).trans x3).trans x4)).at3)
                    | (go_at_call_of 17 a'; refine (CR2.out w4 y4).mono ?_; rintro _ w5 ⟨rfl, x5⟩; have y5 := y4.trans x5; clear a0 a1 a2 b0 b1 b2; obtain ⟨a0, a1, a2⟩ := (HA.out.ext ((((x1.trans x2).trans x3).trans x4).trans x5)).at3; obtain ⟨b0, b1, b2⟩ := (HB.out.ext ((((x1.trans x2).trans x3).trans x4).trans x5)).at3)
                    | fail)
                  go_ret
                  exact ⟨rfl, y5⟩
              | true =>
                cases H1 with
                | false =>
                  clear h
                  as_aux_lemma =>
                    go_enter Try.func5, Try.ntmps5
                    go_wp2_with (first
                      | (go_at_call 8; refine (awake05 _).mono ?_; rintro _ w1 ⟨rfl, x1⟩; have y1 : Ext w w1 := hb.out.2.2.trans x1; obtain ⟨a0, a1, a2⟩ := (HA.out.ext x1).at3; obtain ⟨b0, b1, b2⟩ := (HB.out.ext x1).at3)
                      | (go_at_call_of 9 a; refine (CS1.out w1 y1).mono ?_; rintro _ w2 ⟨rfl, x2⟩; have y2 := y1.trans x2; clear a0 a1 a2 b0 b1 b2; obtain ⟨a0, a1, a2⟩ := (HA.out.ext (x1.trans x2)).at3; obtain ⟨b0, b1, b2⟩ := (HB.out.ext (x1.trans x2)).at3)
                      | (go_at_call_of 9 a'; refine (CS2.out w2 y2).mono ?_; rintro _ w3 ⟨rfl, x3⟩; have y3 := y2.trans x3; clear a0 a1 a2 b0 b1 b2; obtain ⟨a0, a1, a2⟩ := (HA.out.ext ((x1.trans x2).trans x3)).at3; obtain ⟨b0, b1, b2⟩ := (HB.out.ext ((x1.trans x2).trans x3)).at3)
                      | (go_at_call_of 17 a; refine (CR1.out w3 y3).mono ?_; rintro _ w4 ⟨rfl, x4⟩; have y4 := y3.trans x4; clear a0 a1 a2 b0 b1 b2; obtain ⟨a0, a1, a2⟩ := (HA.out.ext (((x1.trans x2).trans x3).trans x4)).at3; obtain ⟨b0, b1, b2⟩ := (HB.out.ext (((x1.trans x2).trans x3).trans x4)).at3)
                      | (go_at_call_of 17 a'; refine (CR2.out w4 y4).mono ?_; rintro _ w5 ⟨rfl, x5⟩; have y5 := y4.trans x5; clear a0 a1 a2 b0 b1 b2; obtain ⟨a0, a1, a2⟩ := (HA.out.ext ((((x1.trans x2).trans x3).trans x4).trans x5)).at3; obtain ⟨b0, b1, b2⟩ := (HB.out.ext ((((x1.trans x2).trans x3).trans x4).trans x5)).at3)
                      | (go_at_call_of 33 ax; refine (CH1.out w5 y5).mono ?_; rintro _ _ ⟨rfl, rfl⟩)
                      | fail)
                    go_ret
                    exact ⟨rfl, y5⟩
                | true =>
                  cases H2 with
                  | false =>
                    clear h
                    as_aux_lemma =>
                      go_enter Try.func5, Try.ntmps5
                      go_wp2_with (first
                        | (go_at_call 8; refine (awake05 _).mono ?_; rintro _ w1 ⟨rfl, x1⟩; have y1 : Ext w w1 := hb.out.2.2.trans x1; obtain ⟨a0, a1, a2⟩ := (HA.out.ext x1).at3; obtain ⟨b0, b1, b2⟩ := (HB.out.ext x1).at3)
                        | (go_at_call_of 9 a; refine (CS1.out w1 y1).mono ?_; rintro _ w2 ⟨rfl, x2⟩; have y2 := y1.trans x2; clear a0 a1 a2 b0 b1 b2; obtain ⟨a0, a1, a2⟩ := (HA.out.ext (x1.trans x2)).at3; obtain ⟨b0, b1, b2⟩ := (HB.out.ext (x1.trans x2)).at3)
                        | (go_at_call_of 9 a'; refine (CS2.out w2 y2).mono ?_; rintro _ w3 ⟨rfl, x3⟩; have y3 := y2.trans x3; clear a0 a1 a2 b0 b1 b2; obtain ⟨a0, a1, a2⟩ := (HA.out.ext ((x1.trans x2).trans x3)).at3; obtain ⟨b0, b1, b2⟩ := (HB.out.ext ((x1.trans x2).trans x3)).at3)
                        | (go_at_call_of 17 a; refine (CR1.out w3 y3).mono ?_; rintro _ w4 ⟨rfl, x4⟩; have y4 := y3.trans x4; clear a0 a1 a2 b0 b1 b2; obtain ⟨a0, a1, a2⟩ := (HA.out.ext (((x1.trans x2).trans x3).trans x4)).at3; obtain ⟨b0, b1, b2⟩ := (HB.out.ext (((x1.trans x2).trans x3).trans x4)).at3)
                        | (go_at_call_of 17 a'; refine (CR2.out w4 y4).mono ?_; rintro _ w5 ⟨rfl, x5⟩; have y5 := y4.trans x5; clear a0 a1 a2 b0 b1 b2; obtain ⟨a0, a1, a2⟩ := (HA.out.ext ((((x1.trans x2).trans x3).trans x4).trans x5)).at3; obtain ⟨b0, b1, b2⟩ := (HB.out.ext ((((x1.trans x2).trans x3).trans x4).trans x5)).at3)
                        | (go_at_call_of 33 ax; refine (CH1.out w5 y5).mono ?_; rintro _ _ ⟨rfl, rfl⟩)
                        | (go_at_call_of 33 ay; refine (CH2.out w5 y5).mono ?_; rintro _ _ ⟨rfl, rfl⟩)
                        | fail)
                      go_ret
                      exact ⟨rfl, y5⟩
                  | true =>
                    cases h

set_option maxRecDepth 100000 in
set_option maxHeartbeats 8000000 in
theorem walk_yes (p : Int) (m n q : Nat) (v u vx vy : Value) (xs ys zs ts : List Int) (w : World) (ok : MatOk p m n xs) (oky : MatOk p n q ys) (hv : Ints .u64 w v xs) (hu : Ints .u64 w u ys) (hz : Ints .u64 w vx zs) (hzr : Rng p zs) (hzl : zs.length = q) (ht : Ints .u64 w vy ts) (htr : Rng p ts) (htl : ts.length = m) (hs1 : xs.length ≤ 150) (hs2 : ys.length ≤ 150) :
    Calls Try.prog 5 #[.int .u64 p, matV m n v, matV n q u, vx, vy] w (Ret (.bool true) w) := by
  have hp2 := rightB_true ok.hp
  have CS1 := hid fun (W : World) (hW : Ext w W) => (show Calls Try.prog 9 #[matV m n v] W (Ret (.bool true) W) from decide_eq_true hs1 ▸ rmShort m n v xs W (hv.ext hW))
  have CS2 := hid fun (W : World) (hW : Ext w W) => (show Calls Try.prog 9 #[matV n q u] W (Ret (.bool true) W) from decide_eq_true hs2 ▸ rmShort n q u ys W (hu.ext hW))
  have CR1 := hid fun (W : World) (hW : Ext w W) => (show Calls Try.prog 17 #[.int .u64 p, matV m n v] W (Ret (.bool true) W) from ok.b ▸ mxRight p m n v xs W (by omega) (by omega) (hv.ext hW) ok.u64)
  have CR2 := hid fun (W : World) (hW : Ext w W) => (show Calls Try.prog 17 #[.int .u64 p, matV n q u] W (Ret (.bool true) W) from oky.b ▸ mxRight p n q u ys W (by omega) (by omega) (hu.ext hW) oky.u64)
  have CH1 := hid fun (W : World) (hW : Ext w W) => (show Calls Try.prog 33 #[.int .u64 p, vx] W (fun e w' => e = .returned (.bool true) ∧ W = w') from hzr.has ok.hp ▸ has_any p vx zs W (by omega) (by omega) (hz.ext hW) (hzr.u64 hp2.2))
  have CH2 := hid fun (W : World) (hW : Ext w W) => (show Calls Try.prog 33 #[.int .u64 p, vy] W (fun e w' => e = .returned (.bool true) ∧ W = w') from htr.has ok.hp ▸ has_any p vy ts W (by omega) (by omega) (ht.ext hW) (htr.u64 hp2.2))
  have Ok := hid ok; have Oky := hid oky; have Okm := hid (ok.mul oky); have Okta := hid ok.turn; have Oktb := hid oky.turn
  have IA := hid hv; have IB := hid hu; have IX := hid hz; have IY := hid ht
  have Hzr := hid hzr; have Hzl := hid hzl; have Htr := hid htr; have Htl := hid htl
  obtain ⟨a, cap, rfl, k1, k2, k3⟩ := hv
  obtain ⟨a', cap', rfl, k1', k2', k3'⟩ := hu
  obtain ⟨ax, capx, rfl, l1, l2, l3⟩ := hz
  obtain ⟨ay, capy, rfl, m1, m2, m3⟩ := ht
  rw [hzl] at CH1 l1 IX ⊢
  rw [htl] at CH2 m1 IY ⊢
  have hb := hid (boxes2 w 25 25 #[.int .i64 (m : Int), .int .i64 (n : Int), .slice a xs.length cap] #[.int .i64 (n : Int), .int .i64 (q : Int), .slice a' ys.length cap'])
  have HA := hid hb.out.1
  have HB := hid hb.out.2.1
  have hW0 := hid hb.out.2.2
  clear k3 k3' l3 m3 hs1 hs2 hzr hzl htr htl ok oky
  unfold matV at CS1 CS2 CR1 CR2
  unfold matV
  go_enter Try.func5, Try.ntmps5
  go_wp2_with (first
    | (go_at_call 8; refine (awake05 _).mono ?_; rintro _ w1 ⟨rfl, x1⟩; have y1 : Ext w w1 := hb.out.2.2.trans x1; obtain ⟨a0, a1, a2⟩ := (HA.out.ext x1).at3; obtain ⟨b0, b1, b2⟩ := (HB.out.ext x1).at3)
    | (go_at_call_of 9 a; refine (CS1.out w1 y1).mono ?_; rintro _ w2 ⟨rfl, x2⟩; have y2 := y1.trans x2; clear a0 a1 a2 b0 b1 b2; obtain ⟨a0, a1, a2⟩ := (HA.out.ext (x1.trans x2)).at3; obtain ⟨b0, b1, b2⟩ := (HB.out.ext (x1.trans x2)).at3)
    | (go_at_call_of 9 a'; refine (CS2.out w2 y2).mono ?_; rintro _ w3 ⟨rfl, x3⟩; have y3 := y2.trans x3; clear a0 a1 a2 b0 b1 b2; obtain ⟨a0, a1, a2⟩ := (HA.out.ext ((x1.trans x2).trans x3)).at3; obtain ⟨b0, b1, b2⟩ := (HB.out.ext ((x1.trans x2).trans x3)).at3)
    | (go_at_call_of 17 a; refine (CR1.out w3 y3).mono ?_; rintro _ w4 ⟨rfl, x4⟩; have y4 := y3.trans x4; clear a0 a1 a2 b0 b1 b2; obtain ⟨a0, a1, a2⟩ := (HA.out.ext (((x1.trans x2).trans x3).trans x4)).at3; obtain ⟨b0, b1, b2⟩ := (HB.out.ext (((x1.trans x2).trans x3).trans x4)).at3)
    | (go_at_call_of 17 a'; refine (CR2.out w4 y4).mono ?_; rintro _ w5 ⟨rfl, x5⟩; have y5 := y4.trans x5; clear a0 a1 a2 b0 b1 b2; obtain ⟨a0, a1, a2⟩ := (HA.out.ext ((((x1.trans x2).trans x3).trans x4).trans x5)).at3; obtain ⟨b0, b1, b2⟩ := (HB.out.ext ((((x1.trans x2).trans x3).trans x4).trans x5)).at3)
    | (go_at_call_of 33 ax; refine (CH1.out w5 y5).mono ?_; rintro _ _ ⟨rfl, rfl⟩)
    | (go_at_call_of 33 ay; refine (CH2.out w5 y5).mono ?_; rintro _ _ ⟨rfl, rfl⟩)
    | fail)
  clear a0 a1 a2 b0 b1 b2 CS1 CS2 CR1 CR2 CH1 CH2
  have y0 := x1
  obtain ⟨ha_0, ha_1, ha_2⟩ := (HA.out.ext (x1.trans (x2.trans (x3.trans (x4.trans x5))))).at3
  obtain ⟨hb_0, hb_1, hb_2⟩ := (HB.out.ext (x1.trans (x2.trans (x3.trans (x4.trans x5))))).at3
  go_wp2_with fail
  refine (mxMul_yes p m n q _ _ xs ys _ Ok.out Oky.out (IA.out.ext (hW0.out.trans (x1.trans (x2.trans (x3.trans (x4.trans x5)))))) (IB.out.ext (hW0.out.trans (x1.trans (x2.trans (x3.trans (x4.trans x5))))))).mono ?_
  rintro _ w6 ⟨uM, rfl, iM, xw6⟩
  clear ha_0 ha_1 ha_2 hb_0 hb_1 hb_2
  have IM := hid iM
  obtain ⟨aM, cM, rfl, _, _, kM⟩ := iM
  clear kM
  unfold matV
  have z8 := (Ext.refl w6).alloc (.cells #[.int .i64 (m : Int), .int .i64 (q : Int), .slice aM (mulL p m n q xs ys).length cM] 25)
  have HM := hid (Blk.new w6 25 #[.int .i64 (m : Int), .int .i64 (q : Int), .slice aM (mulL p m n q xs ys).length cM])
  obtain ⟨hb_0, hb_1, hb_2⟩ := (HB.out.ext (x1.trans (x2.trans (x3.trans (x4.trans (x5.trans (xw6.trans z8))))))).at3
  go_wp2_with fail
  refine (mxTimes_yes p n q _ _ ys zs _ Oky.out (IB.out.ext (hW0.out.trans (x1.trans (x2.trans (x3.trans (x4.trans (x5.trans (xw6.trans z8)))))))) (IX.out.ext (hW0.out.trans (x1.trans (x2.trans (x3.trans (x4.trans (x5.trans (xw6.trans z8)))))))) Hzr.out Hzl.out).mono ?_
  rintro _ w7 ⟨vBx, rfl, iBx, xw7⟩
  clear hb_0 hb_1 hb_2
  have IBx := hid iBx
  clear iBx
  obtain ⟨ha_0, ha_1, ha_2⟩ := (HA.out.ext (x1.trans (x2.trans (x3.trans (x4.trans (x5.trans (xw6.trans (z8.trans xw7)))))))).at3
  go_wp2_with fail
  refine (mxTimes_yes p m n _ _ xs _ _ Ok.out (IA.out.ext (hW0.out.trans (x1.trans (x2.trans (x3.trans (x4.trans (x5.trans (xw6.trans (z8.trans xw7))))))))) IBx.out (timesL_rng hp2.1 _ _ _ _) (timesL_len _ _ _ _)).mono ?_
  rintro _ w8 ⟨vAbx, rfl, iAbx, xw8⟩
  clear ha_0 ha_1 ha_2
  have IAbx := hid iAbx
  clear iAbx
  obtain ⟨hm_0, hm_1, hm_2⟩ := (HM.out.ext (xw7.trans xw8)).at3
  go_wp2_with fail
  refine (mxTimes_yes p m q _ _ _ zs _ Okm.out (IM.out.ext (z8.trans (xw7.trans xw8))) (IX.out.ext (hW0.out.trans (x1.trans (x2.trans (x3.trans (x4.trans (x5.trans (xw6.trans (z8.trans (xw7.trans xw8)))))))))) Hzr.out Hzl.out).mono ?_
  rintro _ w9 ⟨vMx, rfl, iMx, xw9⟩
  clear hm_0 hm_1 hm_2
  have IMx := hid iMx
  clear iMx
  obtain ⟨ha_0, ha_1, ha_2⟩ := (HA.out.ext (x1.trans (x2.trans (x3.trans (x4.trans (x5.trans (xw6.trans (z8.trans (xw7.trans (xw8.trans xw9)))))))))).at3
  go_wp2_with fail
  refine (mxLeft_yes p m n _ _ xs ts _ Ok.out (IA.out.ext (hW0.out.trans (x1.trans (x2.trans (x3.trans (x4.trans (x5.trans (xw6.trans (z8.trans (xw7.trans (xw8.trans xw9))))))))))) (IY.out.ext (hW0.out.trans (x1.trans (x2.trans (x3.trans (x4.trans (x5.trans (xw6.trans (z8.trans (xw7.trans (xw8.trans xw9))))))))))) Htr.out Htl.out).mono ?_
  rintro _ w10 ⟨vYa, rfl, iYa, xw10⟩
  clear ha_0 ha_1 ha_2
  have IYa := hid iYa
  clear iYa
  obtain ⟨hb_0, hb_1, hb_2⟩ := (HB.out.ext (x1.trans (x2.trans (x3.trans (x4.trans (x5.trans (xw6.trans (z8.trans (xw7.trans (xw8.trans (xw9.trans xw10))))))))))).at3
  go_wp2_with fail
  refine (mxLeft_yes p n q _ _ ys _ _ Oky.out (IB.out.ext (hW0.out.trans (x1.trans (x2.trans (x3.trans (x4.trans (x5.trans (xw6.trans (z8.trans (xw7.trans (xw8.trans (xw9.trans xw10)))))))))))) IYa.out (leftL_rng hp2.1 _ _ _ _) (leftL_len _ _ _ _)).mono ?_
  rintro _ w11 ⟨vYab, rfl, iYab, xw11⟩
  clear hb_0 hb_1 hb_2
  have IYab := hid iYab
  clear iYab
  obtain ⟨hm_0, hm_1, hm_2⟩ := (HM.out.ext (xw7.trans (xw8.trans (xw9.trans (xw10.trans xw11))))).at3
  go_wp2_with fail
  refine (mxLeft_yes p m q _ _ _ ts _ Okm.out (IM.out.ext (z8.trans (xw7.trans (xw8.trans (xw9.trans (xw10.trans xw11)))))) (IY.out.ext (hW0.out.trans (x1.trans (x2.trans (x3.trans (x4.trans (x5.trans (xw6.trans (z8.trans (xw7.trans (xw8.trans (xw9.trans (xw10.trans xw11))))))))))))) Htr.out Htl.out).mono ?_
  rintro _ w12 ⟨vYm, rfl, iYm, xw12⟩
  clear hm_0 hm_1 hm_2
  have IYm := hid iYm
  clear iYm
  obtain ⟨ha_0, ha_1, ha_2⟩ := (HA.out.ext (x1.trans (x2.trans (x3.trans (x4.trans (x5.trans (xw6.trans (z8.trans (xw7.trans (xw8.trans (xw9.trans (xw10.trans (xw11.trans xw12))))))))))))).at3
  go_wp2_with fail
  refine (mxTurn_yes p m n _ xs _ Ok.out (IA.out.ext (hW0.out.trans (x1.trans (x2.trans (x3.trans (x4.trans (x5.trans (xw6.trans (z8.trans (xw7.trans (xw8.trans (xw9.trans (xw10.trans (xw11.trans xw12))))))))))))))).mono ?_
  rintro _ w13 ⟨uTa, rfl, iTa, xw13⟩
  clear ha_0 ha_1 ha_2
  have ITa := hid iTa
  obtain ⟨aTa, cTa, rfl, _, _, kTa⟩ := iTa
  clear kTa
  unfold matV
  have z16 := (Ext.refl w13).alloc (.cells #[.int .i64 (n : Int), .int .i64 (m : Int), .slice aTa (turnL m n xs).length cTa] 25)
  have HTa := hid (Blk.new w13 25 #[.int .i64 (n : Int), .int .i64 (m : Int), .slice aTa (turnL m n xs).length cTa])
  obtain ⟨hb_0, hb_1, hb_2⟩ := (HB.out.ext (x1.trans (x2.trans (x3.trans (x4.trans (x5.trans (xw6.trans (z8.trans (xw7.trans (xw8.trans (xw9.trans (xw10.trans (xw11.trans (xw12.trans (xw13.trans z16))))))))))))))).at3
  go_wp2_with fail
  refine (mxTurn_yes p n q _ ys _ Oky.out (IB.out.ext (hW0.out.trans (x1.trans (x2.trans (x3.trans (x4.trans (x5.trans (xw6.trans (z8.trans (xw7.trans (xw8.trans (xw9.trans (xw10.trans (xw11.trans (xw12.trans (xw13.trans z16))))))))))))))))).mono ?_
  rintro _ w14 ⟨uTb, rfl, iTb, xw14⟩
  clear hb_0 hb_1 hb_2
  have ITb := hid iTb
  obtain ⟨aTb, cTb, rfl, _, _, kTb⟩ := iTb
  clear kTb
  unfold matV
  have z18 := (Ext.refl w14).alloc (.cells #[.int .i64 (q : Int), .int .i64 (n : Int), .slice aTb (turnL n q ys).length cTb] 25)
  have HTb := hid (Blk.new w14 25 #[.int .i64 (q : Int), .int .i64 (n : Int), .slice aTb (turnL n q ys).length cTb])
  obtain ⟨hm_0, hm_1, hm_2⟩ := (HM.out.ext (xw7.trans (xw8.trans (xw9.trans (xw10.trans (xw11.trans (xw12.trans (xw13.trans (z16.trans (xw14.trans z18)))))))))).at3
  go_wp2_with fail
  refine (mxTurn_yes p m q _ _ _ Okm.out (IM.out.ext (z8.trans (xw7.trans (xw8.trans (xw9.trans (xw10.trans (xw11.trans (xw12.trans (xw13.trans (z16.trans (xw14.trans z18)))))))))))).mono ?_
  rintro _ w15 ⟨uTm, rfl, iTm, xw15⟩
  clear hm_0 hm_1 hm_2
  have ITm := hid iTm
  obtain ⟨aTm, cTm, rfl, _, _, kTm⟩ := iTm
  clear kTm
  unfold matV
  have z20 := (Ext.refl w15).alloc (.cells #[.int .i64 (q : Int), .int .i64 (m : Int), .slice aTm (turnL m q (mulL p m n q xs ys)).length cTm] 25)
  have HTm := hid (Blk.new w15 25 #[.int .i64 (q : Int), .int .i64 (m : Int), .slice aTm (turnL m q (mulL p m n q xs ys)).length cTm])
  obtain ⟨htb_0, htb_1, htb_2⟩ := (HTb.out.ext (xw15.trans z20)).at3
  obtain ⟨hta_0, hta_1, hta_2⟩ := (HTa.out.ext (xw14.trans (z18.trans (xw15.trans z20)))).at3
  go_wp2_with fail
  refine (mxMul_yes p q n m _ _ _ _ _ Oktb.out Okta.out (ITb.out.ext (z18.trans (xw15.trans z20))) (ITa.out.ext (z16.trans (xw14.trans (z18.trans (xw15.trans z20)))))).mono ?_
  rintro _ w16 ⟨uT, rfl, iT, xw16⟩
  clear htb_0 htb_1 htb_2 hta_0 hta_1 hta_2
  have IT := hid iT
  obtain ⟨aT, cT, rfl, _, _, kT⟩ := iT
  clear kT
  unfold matV
  have z22 := (Ext.refl w16).alloc (.cells #[.int .i64 (q : Int), .int .i64 (m : Int), .slice aT (mulL p q n m (turnL n q ys) (turnL m n xs)).length cT] 25)
  have HT := hid (Blk.new w16 25 #[.int .i64 (q : Int), .int .i64 (m : Int), .slice aT (mulL p q n m (turnL n q ys) (turnL m n xs)).length cT])
  obtain ⟨hm_0, hm_1, hm_2⟩ := (HM.out.ext (xw7.trans (xw8.trans (xw9.trans (xw10.trans (xw11.trans (xw12.trans (xw13.trans (z16.trans (xw14.trans (z18.trans (xw15.trans (z20.trans (xw16.trans z22)))))))))))))).at3
  go_wp2_with fail
  refine (mxThin_yes p m q _ _ _ Okm.out (IM.out.ext (z8.trans (xw7.trans (xw8.trans (xw9.trans (xw10.trans (xw11.trans (xw12.trans (xw13.trans (z16.trans (xw14.trans (z18.trans (xw15.trans (z20.trans (xw16.trans z22)))))))))))))))).mono ?_
  rintro _ w17 ⟨vb, vc, vv, rfl, ib, ic, iv, xw17⟩
  clear hm_0 hm_1 hm_2
  have Ib := hid ib; have Ic := hid ic; have Iv := hid iv
  obtain ⟨ab, kb, rfl, _, _, k5⟩ := ib
  obtain ⟨ac, kc, rfl, _, _, k6⟩ := ic
  obtain ⟨av, kv, rfl, _, _, k7⟩ := iv
  clear k5 k6 k7
  unfold spV
  have z24 := (Ext.refl w17).alloc (.cells #[.int .i64 (m : Int), .int .i64 (q : Int), .slice ab (thB (mulL p m n q xs ys) m q).length kb, .slice ac (thC (mulL p m n q xs ys) q (m * q)).length kc, .slice av (thV (mulL p m n q xs ys) (m * q)).length kv] 28)
  have HS := hid (Blk.new w17 28 #[.int .i64 (m : Int), .int .i64 (q : Int), .slice ab (thB (mulL p m n q xs ys) m q).length kb, .slice ac (thC (mulL p m n q xs ys) q (m * q)).length kc, .slice av (thV (mulL p m n q xs ys) (m * q)).length kv])
  have HW := hid (whole_of Okm.out)
  obtain ⟨hs_0, hs_1, hs_2, hs_3, hs_4⟩ := HS.out.at5
  go_wp2_with fail
  refine (mxSparseTimes_yes p m q _ _ _ _ _ _ _ zs _ (spOk_of Okm.out) (Ib.out.ext z24) (Ic.out.ext z24) (Iv.out.ext z24) (thV_rng Okm.out) (IX.out.ext (hW0.out.trans (x1.trans (x2.trans (x3.trans (x4.trans (x5.trans (xw6.trans (z8.trans (xw7.trans (xw8.trans (xw9.trans (xw10.trans (xw11.trans (xw12.trans (xw13.trans (z16.trans (xw14.trans (z18.trans (xw15.trans (z20.trans (xw16.trans (z22.trans (xw17.trans z24)))))))))))))))))))))))) Hzr.out Hzl.out).mono ?_
  rintro _ w18 ⟨vSx, rfl, iSx, xw18⟩
  clear hs_0 hs_1 hs_2 hs_3 hs_4
  have ISx := hid iSx
  clear iSx
  obtain ⟨hs_0, hs_1, hs_2, hs_3, hs_4⟩ := (HS.out.ext xw18).at5
  go_wp2_with fail
  refine (mxSparseLeft_yes p m q _ _ _ _ _ _ _ ts _ (spOk_of Okm.out) (Ib.out.ext (z24.trans xw18)) (Ic.out.ext (z24.trans xw18)) (Iv.out.ext (z24.trans xw18)) (thV_rng Okm.out) (IY.out.ext (hW0.out.trans (x1.trans (x2.trans (x3.trans (x4.trans (x5.trans (xw6.trans (z8.trans (xw7.trans (xw8.trans (xw9.trans (xw10.trans (xw11.trans (xw12.trans (xw13.trans (z16.trans (xw14.trans (z18.trans (xw15.trans (z20.trans (xw16.trans (z22.trans (xw17.trans (z24.trans xw18))))))))))))))))))))))))) Htr.out Htl.out).mono ?_
  rintro _ w19 ⟨vYs, rfl, iYs, xw19⟩
  clear hs_0 hs_1 hs_2 hs_3 hs_4
  have IYs := hid iYs
  clear iYs
  rw [HW.out] at ISx IYs
  obtain ⟨D, hD⟩ : ∃ D, dotZ ts (timesL p m q (mulL p m n q xs ys) zs) % p = D := ⟨_, rfl⟩
  have hD2 : dotZ (leftL p m q (mulL p m n q xs ys) ts) zs % p = D := by
    rw [← hD, dv_dotZ (leftL_len _ _ _ _) Hzl.out, dv_dotZ Htl.out (timesL_len _ _ _ _), dot_mul]
  have HD := hid hD; have HD2 := hid hD2
  clear hD hD2
  go_wp2_with fail
  refine (dot_as p D _ _ ts _ _ (IY.out.ext (hW0.out.trans (x1.trans (x2.trans (x3.trans (x4.trans (x5.trans (xw6.trans (z8.trans (xw7.trans (xw8.trans (xw9.trans (xw10.trans (xw11.trans (xw12.trans (xw13.trans (z16.trans (xw14.trans (z18.trans (xw15.trans (z20.trans (xw16.trans (z22.trans (xw17.trans (z24.trans (xw18.trans xw19)))))))))))))))))))))))))) (IMx.out.ext (xw10.trans (xw11.trans (xw12.trans (xw13.trans (z16.trans (xw14.trans (z18.trans (xw15.trans (z20.trans (xw16.trans (z22.trans (xw17.trans (z24.trans (xw18.trans xw19))))))))))))))) (Htr.out.u64 hp2.2) ((timesL_rng hp2.1 _ _ _ _).u64 hp2.2) (by rw [Htl.out, timesL_len]) (Htr.out.has Ok.out.hp) ((timesL_rng hp2.1 _ _ _ _).has Ok.out.hp) HD.out).mono ?_
  rintro _ w20 ⟨rfl, xw20⟩
  go_wp2_with fail
  refine (dot_as p D _ _ _ zs _ (IYm.out.ext (xw13.trans (z16.trans (xw14.trans (z18.trans (xw15.trans (z20.trans (xw16.trans (z22.trans (xw17.trans (z24.trans (xw18.trans (xw19.trans xw20))))))))))))) (IX.out.ext (hW0.out.trans (x1.trans (x2.trans (x3.trans (x4.trans (x5.trans (xw6.trans (z8.trans (xw7.trans (xw8.trans (xw9.trans (xw10.trans (xw11.trans (xw12.trans (xw13.trans (z16.trans (xw14.trans (z18.trans (xw15.trans (z20.trans (xw16.trans (z22.trans (xw17.trans (z24.trans (xw18.trans (xw19.trans xw20))))))))))))))))))))))))))) ((leftL_rng hp2.1 _ _ _ _).u64 hp2.2) (Hzr.out.u64 hp2.2) (by rw [Hzl.out, leftL_len]) ((leftL_rng hp2.1 _ _ _ _).has Ok.out.hp) (Hzr.out.has Ok.out.hp) HD2.out).mono ?_
  rintro _ w21 ⟨rfl, xw21⟩
  have ew22 := times_mul (p := p) m n q xs ys zs
  rw [ew22] at IAbx
  go_wp2_with fail
  refine (same_yes _ _ _ _ (IAbx.out.ext (xw9.trans (xw10.trans (xw11.trans (xw12.trans (xw13.trans (z16.trans (xw14.trans (z18.trans (xw15.trans (z20.trans (xw16.trans (z22.trans (xw17.trans (z24.trans (xw18.trans (xw19.trans (xw20.trans xw21)))))))))))))))))) (IMx.out.ext (xw10.trans (xw11.trans (xw12.trans (xw13.trans (z16.trans (xw14.trans (z18.trans (xw15.trans (z20.trans (xw16.trans (z22.trans (xw17.trans (z24.trans (xw18.trans (xw19.trans (xw20.trans xw21)))))))))))))))))).mono ?_
  rintro _ w22 ⟨rfl, xw22⟩
  have ew23 := left_mul (p := p) m n q xs ys ts
  rw [ew23] at IYab
  go_wp2_with fail
  refine (same_yes _ _ _ _ (IYab.out.ext (xw12.trans (xw13.trans (z16.trans (xw14.trans (z18.trans (xw15.trans (z20.trans (xw16.trans (z22.trans (xw17.trans (z24.trans (xw18.trans (xw19.trans (xw20.trans (xw21.trans xw22)))))))))))))))) (IYm.out.ext (xw13.trans (z16.trans (xw14.trans (z18.trans (xw15.trans (z20.trans (xw16.trans (z22.trans (xw17.trans (z24.trans (xw18.trans (xw19.trans (xw20.trans (xw21.trans xw22)))))))))))))))).mono ?_
  rintro _ w23 ⟨rfl, xw23⟩
  have hT := hid (fun (W : World) (v u : Value) (hv : Ints .u64 W v (turnL m q (mulL p m n q xs ys))) (hu : Ints .u64 W u (mulL p q n m (turnL n q ys) (turnL m n xs))) => (show Calls Try.prog 23 #[matV q m v, matV q m u] W (Ret (.bool true) W) from (decide_eq_true (⟨rfl, rfl, turn_mul (p := p) m n q xs ys⟩ : (q : Int) = q ∧ (m : Int) = m ∧ turnL m q (mulL p m n q xs ys) = mulL p q n m (turnL n q ys) (turnL m n xs))) ▸ rmSame q m q m v u _ _ W hv hu))
  unfold matV at hT
  obtain ⟨htm_0, htm_1, htm_2⟩ := (HTm.out.ext (xw16.trans (z22.trans (xw17.trans (z24.trans (xw18.trans (xw19.trans (xw20.trans (xw21.trans (xw22.trans xw23)))))))))).at3
  obtain ⟨ht_0, ht_1, ht_2⟩ := (HT.out.ext (xw17.trans (z24.trans (xw18.trans (xw19.trans (xw20.trans (xw21.trans (xw22.trans xw23)))))))).at3
  go_wp2_with fail
  refine (hT.out _ _ _ (ITm.out.ext (z20.trans (xw16.trans (z22.trans (xw17.trans (z24.trans (xw18.trans (xw19.trans (xw20.trans (xw21.trans (xw22.trans xw23))))))))))) (IT.out.ext (z22.trans (xw17.trans (z24.trans (xw18.trans (xw19.trans (xw20.trans (xw21.trans (xw22.trans xw23)))))))))).mono ?_
  rintro _ w24 ⟨rfl, xw24⟩
  clear htm_0 htm_1 htm_2 ht_0 ht_1 ht_2
  go_wp2_with fail
  refine (same_yes _ _ _ _ (ISx.out.ext (xw19.trans (xw20.trans (xw21.trans (xw22.trans (xw23.trans xw24)))))) (IMx.out.ext (xw10.trans (xw11.trans (xw12.trans (xw13.trans (z16.trans (xw14.trans (z18.trans (xw15.trans (z20.trans (xw16.trans (z22.trans (xw17.trans (z24.trans (xw18.trans (xw19.trans (xw20.trans (xw21.trans (xw22.trans (xw23.trans xw24))))))))))))))))))))).mono ?_
  rintro _ w25 ⟨rfl, xw25⟩
  go_wp2_with fail
  refine (same_yes _ _ _ _ (IYs.out.ext (xw20.trans (xw21.trans (xw22.trans (xw23.trans (xw24.trans xw25)))))) (IYm.out.ext (xw13.trans (z16.trans (xw14.trans (z18.trans (xw15.trans (z20.trans (xw16.trans (z22.trans (xw17.trans (z24.trans (xw18.trans (xw19.trans (xw20.trans (xw21.trans (xw22.trans (xw23.trans (xw24.trans xw25))))))))))))))))))).mono ?_
  rintro _ w26 ⟨rfl, xw26⟩
  go_wp2_with fail
  go_ret
  exact ⟨rfl, (hW0.out.trans (x1.trans (x2.trans (x3.trans (x4.trans (x5.trans (xw6.trans (z8.trans (xw7.trans (xw8.trans (xw9.trans (xw10.trans (xw11.trans (xw12.trans (xw13.trans (z16.trans (xw14.trans (z18.trans (xw15.trans (z20.trans (xw16.trans (z22.trans (xw17.trans (z24.trans (xw18.trans (xw19.trans (xw20.trans (xw21.trans (xw22.trans (xw23.trans (xw24.trans (xw25.trans xw26))))))))))))))))))))))))))))))))⟩

/-- the law answers true -/
theorem walk (p r c : Int) (v : Value) (xs : List Int) (r' c' : Int) (u : Value) (ys : List Int) (vx : Value) (zs : List Int) (vy : Value) (ts : List Int) (w : World) (hp : (Lit.int .u64 p).wf = true) (_ : (Lit.int .i64 r).wf = true) (_ : (Lit.int .i64 c).wf = true) (hv : Ints .u64 w v xs) (hx : ∀ x ∈ xs, (Lit.int .u64 x).wf = true)
    (_ : (Lit.int .i64 r').wf = true) (_ : (Lit.int .i64 c').wf = true) (hu : Ints .u64 w u ys) (hy : ∀ x ∈ ys, (Lit.int .u64 x).wf = true) (hz : Ints .u64 w vx zs) (hzu : ∀ x ∈ zs, (Lit.int .u64 x).wf = true) (ht : Ints .u64 w vy ts) (htu : ∀ x ∈ ts, (Lit.int .u64 x).wf = true) :
    Calls Try.prog 5 #[.int .u64 p, .agg #[.int .i64 r, .int .i64 c, v], .agg #[.int .i64 r', .int .i64 c', u], vx, vy] w (Ret (.bool true) w) := by
  have hp' := u64_wf hp
  have hx' : U64s xs := fun x h => u64_wf (hx x h)
  have hy' : U64s ys := fun x h => u64_wf (hy x h)
  have hz' : U64s zs := fun x h => u64_wf (hzu x h)
  have ht' : U64s ts := fun x h => u64_wf (htu x h)
  cases h : (decide (xs.length ≤ 150) && decide (ys.length ≤ 150) && matB p r c xs && matB p r' c' ys && decide (c = r') && decide ((zs.length : Int) = c') && decide ((ts.length : Int) = r) && hasB p zs && hasB p ts) with
  | false => exact walk_skip p r c r' c' v u vx vy xs ys zs ts w hp'.1 hp'.2 hv hx' hu hy' hz hz' ht ht' h
  | true =>
    simp only [Bool.and_eq_true, decide_eq_true_eq] at h
    obtain ⟨⟨⟨⟨⟨⟨⟨⟨g1, g2⟩, g3⟩, g4⟩, g5⟩, g6⟩, g7⟩, g8⟩, g9⟩ := h
    obtain ⟨m, n, rfl, rfl, ok⟩ := MatOk.of hx' g3
    obtain ⟨n', q, e1, rfl, oky⟩ := MatOk.of hy' g4
    obtain rfl : n = n' := by omega
    subst e1
    exact walk_yes p m n q v u vx vy xs ys zs ts w ok oky hv hu hz (rng_of hz' g8) (by omega) ht (rng_of ht' g9) (by omega) g1 g2

theorem own : ownKnob Try.prog.godebug = none := by kernel_rfl
set_option maxRecDepth 100000 in
theorem lifted (os : Os) (started : os.Started) (H : Type) (enc : TypeId × Value → H) :
    ReturnsInHanded {} Try.checked os 5 .any (Rows.matrixAppliesSpec.pre6 enc Try.prog Try.f5 Rows.matrixAppliesRow.domain false) (Rows.matrixAppliesSpec.post enc Try.prog Try.f5 false true false false) := by
  refine returnsInHanded_of_change (C := Try.checked) own started (by kernel_rfl) Try.func5
    (ChangeSpec.witness6 (enc := enc) (C := Try.checked) false ⟨#[], #[.int .u64 0, .agg #[.int .i64 0, .int .i64 0, .slice none 0 0], .agg #[.int .i64 0, .int .i64 0, .slice none 0 0], .slice none 0 0, .slice none 0 0], []⟩ 8 (by kernel_rfl) (by kernel_rfl) (by kernel_rfl) (by kernel_rfl)) ?_
  intro W base args ds gs before hval0 hW _ _
  have hval : ∀ (j : Nat) t v, Try.f5.params[j]? = some t → args[j]? = some v → Value.okWide Try.prog W .any base t v := hval0
  have hW' := hW
  obtain ⟨p, q, hA0, hV, rfl, _, _⟩ := hW
  have hA : DataW.TrodAll enc Try.prog W 0 (fun _ => true) true Try.f5.params.toList args.toList ds p := hA0
  rw [Try.params5] at hA hval
  obtain ⟨v0, vs0, d0, ds0, p0, q0, hargs, rfl, rfl, h0, r0⟩ := trodAll_cons hA
  obtain ⟨v1, vs1, d1, ds1, p1, q1, rfl, rfl, rfl, h1, r1⟩ := trodAll_cons r0
  obtain ⟨v2, vs2, d2, ds2, p2, q2, rfl, rfl, rfl, h2, r2⟩ := trodAll_cons r1
  obtain ⟨v3, vs3, d3, ds3, p3, q3, rfl, rfl, rfl, h3, r3⟩ := trodAll_cons r2
  obtain ⟨v4, vs4, d4, ds4, p4, q4, rfl, rfl, rfl, h4, r4⟩ := trodAll_cons r3
  obtain ⟨rfl, rfl, rfl⟩ := trodAll_nil r4
  obtain rfl : args = #[v0, v1, v2, v3, v4] := by cases args; simp_all
  obtain ⟨rfl, rfl⟩ := trodVars_none hV
  obtain ⟨a0, rfl, rfl, rfl, w0⟩ := open_int Try.underlying22 (hval 0 22 v0 rfl rfl) h0
  obtain ⟨mr1, mc1, mu1, xs1, rfl, wr1, wc1, i1, w1⟩ := open_Mat (hval 1 25 v1 rfl rfl) h1
  obtain ⟨mr2, mc2, mu2, xs2, rfl, wr2, wc2, i2, w2⟩ := open_Mat (hval 2 25 v2 rfl rfl) h2
  obtain ⟨xs3, i3, w3⟩ := open_Ints Try.underlying23 Try.underlying22 (by kernel_rfl) (hval 3 23 v3 rfl rfl) h3
  obtain ⟨xs4, i4, w4⟩ := open_Ints Try.underlying23 Try.underlying22 (by kernel_rfl) (hval 4 23 v4 rfl rfl) h4
  refine (walk a0 mr1 mc1 mu1 xs1 mr2 mc2 mu2 xs2 v3 xs3 v4 xs4 W w0 wr1 wc1 i1 w1 wr2 wc2 i2 w2 i3 w3 i4 w4).mono fun e W' ⟨he, hg⟩ => ⟨_, he, ?_⟩
  exact law_post (by kernel_rfl) (by kernel_rfl) rfl Try.underlying4 rfl rfl hW' hg

/-- the statement -/
theorem proved : Rows.MatrixAppliesSaid :=
  OpenClaim.holds_of_wide 5 Try.f5 rfl rfl rfl rfl rfl rfl rfl ⟨rfl, rfl, rfl, rfl, rfl⟩ rfl rfl rfl rfl rfl (by kernel_rfl) Try.func5 (by kernel_rfl)
    (of_decide_eq_true (by kernel_rfl)) (by unfold Func.isWrapper; first | (rw [if_pos (by decide +kernel)]; kernel_rfl) | (rw [if_neg (by decide +kernel)]; exact ⟨rfl, rfl⟩))
    (fun os started H enc _ => lifted os started H enc)
end Go.Proofs.Ytlociefncogjeaa.matrixApplies
