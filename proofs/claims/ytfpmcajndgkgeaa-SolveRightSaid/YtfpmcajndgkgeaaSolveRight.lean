/- SolveRight: whatever the number, the matrix, the right side and the row, the law answers true, and nothing that was there has turned. No condition. -/
import Derived.Test.YtfpmcajndgkgeaaBun26
import Derived.Test.YtfpmcajndgkgeaaPr08
import Derived.Test.YtfpmcajndgkgeaaOpenMat
import Derived.Test.YtfpmcajndgkgeaaBun09
import Derived.Test.YtfpmcajndgkgeaaBun05
namespace Go.Proofs.Ytfpmcajndgkgeaa.solveRight
open Go.ChangeShapes Go.WideShapes Go.ChangeAt Go.RowKit Go.Maps

/-- does the law go on? -/
noncomputable def goB (p r c : Int) (xs b : List Int) : Bool := decide (xs.length ≤ 25) && (decide (b.length ≤ 30) && (takenB p && (decide (r ≤ 5) && decide (c ≤ 5))))
set_option maxRecDepth 100000 in
set_option maxHeartbeats 2000000 in
theorem walk_skip (p r c : Int) (v u : Value) (i : Int) (xs b : List Int) (w : World) (h0 : 0 ≤ p) (_ : p ≤ 18446744073709551615) (hv : Ints .u64 w v xs) (_ : U64s xs) (hu : Ints .u64 w u b) (_ : U64s b) (h : goB p r c xs b = false) :
    Calls Try.prog 3 #[.int .u64 p, matV r c v, u, .int .i64 i] w (Ret (.bool true) w) := by
  have C1 := hid fun (W : World) => prime_any08 p W h0
  unfold goB at h
  obtain ⟨T, e1⟩ : ∃ B, takenB p = B := ⟨_, rfl⟩
  obtain ⟨K1, e2⟩ : ∃ B, decide (xs.length ≤ 25) = B := ⟨_, rfl⟩
  obtain ⟨K2, e3⟩ : ∃ B, decide (b.length ≤ 30) = B := ⟨_, rfl⟩
  obtain ⟨K3, e4⟩ : ∃ B, decide (r ≤ 5) = B := ⟨_, rfl⟩
  obtain ⟨K4, e5⟩ : ∃ B, decide (c ≤ 5) = B := ⟨_, rfl⟩
  rw [e1] at C1 h; rw [e2, e3, e4, e5] at h
  have t2 : decide (25 < (xs.length : Int)) = !K1 := by rw [← e2]; by_cases e : xs.length ≤ 25 <;> simp [e] <;> omega
  have t3 : decide (30 < (b.length : Int)) = !K2 := by rw [← e3]; by_cases e : b.length ≤ 30 <;> simp [e] <;> omega
  have t4 : decide (5 < r) = !K3 := by rw [← e4]; by_cases e : r ≤ 5 <;> simp [e] <;> omega
  have t5 : decide (5 < c) = !K4 := by rw [← e5]; by_cases e : c ≤ 5 <;> simp [e] <;> omega
  obtain ⟨a, cap, rfl, k1, k2, k3⟩ := hv
  obtain ⟨a', cap', rfl, k1', k2', k3'⟩ := hu
  clear k3 k3' e1 e2 e3 e4 e5
  have HA := hid (Blk.new w 25 #[.int .i64 r, .int .i64 c, .slice a xs.length cap])
  have hW0 := hid ((Ext.refl w).alloc (.cells #[.int .i64 r, .int .i64 c, .slice a xs.length cap] 25))
  unfold matV
  have H := hid h
  clear h
  cases K1 with
  | false =>
    as_aux_lemma =>
      go_enter Try.func3, Try.ntmps3
      go_wp2_with fail
      refine (awake08 _).mono ?_
      rintro _ w1 ⟨rfl, xw1⟩
      obtain ⟨ha_0, ha_1, ha_2⟩ := (HA.out.ext xw1).at3
      go_wp2_with fail
      go_ret
      exact ⟨rfl, (hW0.out.trans xw1)⟩
  | true =>
    cases K2 with
    | false =>
      as_aux_lemma =>
        go_enter Try.func3, Try.ntmps3
        go_wp2_with fail
        refine (awake08 _).mono ?_
        rintro _ w1 ⟨rfl, xw1⟩
        obtain ⟨ha_0, ha_1, ha_2⟩ := (HA.out.ext xw1).at3
        go_wp2_with fail
        go_ret
        exact ⟨rfl, (hW0.out.trans xw1)⟩
    | true =>
      cases T with
      | false =>
        as_aux_lemma =>
          go_enter Try.func3, Try.ntmps3
          go_wp2_with fail
          refine (awake08 _).mono ?_
          rintro _ w1 ⟨rfl, xw1⟩
          obtain ⟨ha_0, ha_1, ha_2⟩ := (HA.out.ext xw1).at3
          go_wp2_with fail
          refine (C1.out _).mono ?_
          rintro _ _ ⟨rfl, rfl⟩
          go_wp2_with fail
          go_ret
          exact ⟨rfl, (hW0.out.trans xw1)⟩
      | true =>
        cases K3 with
        | false =>
          as_aux_lemma =>
            go_enter Try.func3, Try.ntmps3
            go_wp2_with fail
            refine (awake08 _).mono ?_
            rintro _ w1 ⟨rfl, xw1⟩
            obtain ⟨ha_0, ha_1, ha_2⟩ := (HA.out.ext xw1).at3
            go_wp2_with fail
            refine (C1.out _).mono ?_
            rintro _ _ ⟨rfl, rfl⟩
            go_wp2_with fail
            go_ret
            exact ⟨rfl, (hW0.out.trans xw1)⟩
        | true =>
          cases K4 with
          | false =>
            as_aux_lemma =>
              go_enter Try.func3, Try.ntmps3
              go_wp2_with fail
              refine (awake08 _).mono ?_
              rintro _ w1 ⟨rfl, xw1⟩
              obtain ⟨ha_0, ha_1, ha_2⟩ := (HA.out.ext xw1).at3
              go_wp2_with fail
              refine (C1.out _).mono ?_
              rintro _ _ ⟨rfl, rfl⟩
              go_wp2_with fail
              go_ret
              exact ⟨rfl, (hW0.out.trans xw1)⟩
          | true =>
            exact absurd H.out (by decide)
set_option maxRecDepth 100000 in
set_option maxHeartbeats 2000000 in
theorem walk_no (p r c : Int) (v u : Value) (i : Int) (xs b : List Int) (w : World) (h0 : 0 ≤ p) (h1 : p ≤ 18446744073709551615) (hv : Ints .u64 w v xs) (hx : U64s xs) (hu : Ints .u64 w u b) (hy : U64s b) (hT : takenB p = true) (l1 : xs.length ≤ 25) (l2 : b.length ≤ 30) (l3 : r ≤ 5) (l4 : c ≤ 5) (h : matB p r c xs = false) :
    Calls Try.prog 3 #[.int .u64 p, matV r c v, u, .int .i64 i] w (Ret (.bool true) w) := by
  have C1 := hid fun (W : World) => (hT ▸ prime_any08 p W h0 : Calls Try.prog 10 #[.int .u64 p] W fun e w' => e = .returned (.bool true) ∧ W = w')
  have t2 : decide (25 < (xs.length : Int)) = false := decide_eq_false (by omega)
  have t3 : decide (30 < (b.length : Int)) = false := decide_eq_false (by omega)
  have t2' : decide (25 < xs.length) = false := decide_eq_false (by omega)
  have t3' : decide (30 < b.length) = false := decide_eq_false (by omega)
  have t4 : decide (5 < r) = false := decide_eq_false (by omega)
  have t5 : decide (5 < c) = false := decide_eq_false (by omega)
  have C2 := hid fun (W : World) (hW : Ext w W) => (h ▸ rmRight p r c v xs W h0 h1 (hv.ext hW) hx : Calls Try.prog 16 #[.int .u64 p, matV r c v] W (Ret (.bool false) W))
  have HT := hid (told_no p r c v u xs b i w h0 h1 hv hx hu hy h)
  obtain ⟨a, cap, rfl, k1, k2, k3⟩ := hv
  obtain ⟨a', cap', rfl, k1', k2', k3'⟩ := hu
  clear k3 k3' hx hy hT h
  have HA := hid (Blk.new w 25 #[.int .i64 r, .int .i64 c, .slice a xs.length cap])
  have hW0 := hid ((Ext.refl w).alloc (.cells #[.int .i64 r, .int .i64 c, .slice a xs.length cap] 25))
  unfold Told RetE matV at HT
  unfold matV at C2
  unfold matV
  go_enter Try.func3, Try.ntmps3
  go_wp2_with fail
  refine (awake08 _).mono ?_
  rintro _ w1 ⟨rfl, xw1⟩
  obtain ⟨ha_0, ha_1, ha_2⟩ := (HA.out.ext xw1).at3
  go_wp2_with fail
  refine (C1.out _).mono ?_
  rintro _ _ ⟨rfl, rfl⟩
  clear C1 ha_0 ha_1 ha_2
  obtain ⟨n1, n2, n3, n4, n5⟩ := HT.out
  have K1 := hid n1; have K2 := hid n2; have K3 := hid n3; have K4 := hid n4; have K5 := hid n5
  clear n1 n2 n3 n4 n5 HT
  obtain ⟨ha_0, ha_1, ha_2⟩ := (HA.out.ext xw1).at3
  go_wp2_with fail
  refine (K1.out _ (hW0.out.trans xw1)).mono ?_
  rintro _ w2 ⟨v1, rfl, i1, xw2⟩
  clear ha_0 ha_1 ha_2
  have I1 := hid i1
  obtain ⟨a1, q1, rfl, _, _, kk⟩ := i1
  clear kk K1
  obtain ⟨ha_0, ha_1, ha_2⟩ := (HA.out.ext (xw1.trans xw2)).at3
  go_wp2_with fail
  refine (K2.out _ (hW0.out.trans (xw1.trans xw2))).mono ?_
  rintro _ w3 ⟨v2, rfl, i2, xw3⟩
  clear ha_0 ha_1 ha_2
  have I2 := hid i2
  obtain ⟨a2, q2, rfl, _, _, kk⟩ := i2
  clear kk K2
  obtain ⟨ha_0, ha_1, ha_2⟩ := (HA.out.ext (xw1.trans (xw2.trans xw3))).at3
  go_wp2_with fail
  refine (K3.out _ (hW0.out.trans (xw1.trans (xw2.trans xw3)))).mono ?_
  rintro _ w4 ⟨v3, rfl, i3, xw4⟩
  clear ha_0 ha_1 ha_2
  have I3 := hid i3
  obtain ⟨a3, q3, rfl, _, _, kk⟩ := i3
  clear kk K3
  obtain ⟨ha_0, ha_1, ha_2⟩ := (HA.out.ext (xw1.trans (xw2.trans (xw3.trans xw4)))).at3
  go_wp2_with fail
  refine (K4.out _ (hW0.out.trans (xw1.trans (xw2.trans (xw3.trans xw4))))).mono ?_
  rintro _ w5 ⟨v4, rfl, i4, xw5⟩
  clear ha_0 ha_1 ha_2
  have I4 := hid i4
  obtain ⟨a4, q4, rfl, _, _, kk⟩ := i4
  clear kk K4
  obtain ⟨ha_0, ha_1, ha_2⟩ := (HA.out.ext (xw1.trans (xw2.trans (xw3.trans (xw4.trans xw5))))).at3
  go_wp2_with fail
  refine (K5.out _ (hW0.out.trans (xw1.trans (xw2.trans (xw3.trans (xw4.trans xw5)))))).mono ?_
  rintro _ w6 ⟨v5, rfl, i5, xw6⟩
  clear ha_0 ha_1 ha_2
  have I5 := hid i5
  obtain ⟨a5, q5, rfl, _, _, kk⟩ := i5
  clear kk K5
  obtain ⟨ha_0, ha_1, ha_2⟩ := (HA.out.ext (xw1.trans (xw2.trans (xw3.trans (xw4.trans (xw5.trans xw6)))))).at3
  go_wp2_with fail
  refine (C2.out _ (hW0.out.trans (xw1.trans (xw2.trans (xw3.trans (xw4.trans (xw5.trans xw6))))))).mono ?_
  rintro _ w7 ⟨rfl, xw7⟩
  clear ha_0 ha_1 ha_2
  go_wp2_with fail
  go_ret
  exact ⟨rfl, (hW0.out.trans (xw1.trans (xw2.trans (xw3.trans (xw4.trans (xw5.trans (xw6.trans xw7)))))))⟩
set_option maxRecDepth 100000 in
set_option maxHeartbeats 4000000 in
theorem walk_yes (p : Int) (m n : Nat) (v u : Value) (i : Int) (xs b : List Int) (w : World) (ok : MatOk p m n xs) (hf : Fld p) (hv : Ints .u64 w v xs) (hu : Ints .u64 w u b) (hy : U64s b) (hT : takenB p = true) (l1 : xs.length ≤ 25) (l2 : b.length ≤ 30) (l3 : (m : Int) ≤ 5) (l4 : (n : Int) ≤ 5) :
    Calls Try.prog 3 #[.int .u64 p, matV m n v, u, .int .i64 i] w (Ret (.bool true) w) := by
  have hp2 := rightB_true ok.hp
  have h0 : 0 ≤ p := by omega
  have h1 : p ≤ 18446744073709551615 := by omega
  have C1 := hid fun (W : World) => (hT ▸ prime_any08 p W h0 : Calls Try.prog 10 #[.int .u64 p] W fun e w' => e = .returned (.bool true) ∧ W = w')
  have t2 : decide (25 < (xs.length : Int)) = false := decide_eq_false (by omega)
  have t3 : decide (30 < (b.length : Int)) = false := decide_eq_false (by omega)
  have t2' : decide (25 < xs.length) = false := decide_eq_false (by omega)
  have t3' : decide (30 < b.length) = false := decide_eq_false (by omega)
  have t4 : decide (5 < (m : Int)) = false := decide_eq_false (by omega)
  have t5 : decide (5 < (n : Int)) = false := decide_eq_false (by omega)
  have C2 := hid fun (W : World) (hW : Ext w W) => (ok.b ▸ rmRight p m n v xs W h0 h1 (hv.ext hW) ok.u64 : Calls Try.prog 16 #[.int .u64 p, matV m n v] W (Ret (.bool true) W))
  have C3 := hid fun (W : World) (hW : Ext w W) => rHas p u b W h0 h1 (hu.ext hW) hy
  obtain ⟨e1, y1, e2, y2, e3, y3, e4, y4, e5, y5, hTold, hAsk⟩ := told_yes p m n v u xs b i w ok hf hv hu hy
  have HT := hid hTold; have HK := hid hAsk
  unfold Asked vecB at HK
  clear hTold hAsk ok hf hT
  obtain ⟨a, cap, rfl, k1, k2, k3⟩ := hv
  obtain ⟨a', cap', rfl, k1', k2', k3'⟩ := hu
  clear k3 k3' hy
  have HA := hid (Blk.new w 25 #[.int .i64 (m : Int), .int .i64 (n : Int), .slice a xs.length cap])
  have hW0 := hid ((Ext.refl w).alloc (.cells #[.int .i64 (m : Int), .int .i64 (n : Int), .slice a xs.length cap] 25))
  unfold Told RetE matV at HT
  unfold RetE matV at HK
  unfold matV at C2
  unfold matV
  obtain ⟨S, eS⟩ : ∃ S, hasB p b = S := ⟨_, rfl⟩
  obtain ⟨Q, eQ⟩ : ∃ Q, decide ((b.length : Int) = (m : Int)) = Q := ⟨_, rfl⟩
  rw [eS] at C3 HK; rw [eQ] at HK
  have t6 : ((b.length : Int) != (m : Int)) = !Q := by rw [← eQ]; rfl
  obtain ⟨Ra, f1⟩ : ∃ I, decide (0 ≤ i) = I := ⟨_, rfl⟩
  obtain ⟨Rb, f2⟩ : ∃ I, decide (i < (m : Int)) = I := ⟨_, rfl⟩
  rw [f1, f2] at HK
  have t7 : decide (i < 0) = !Ra := by rw [← f1]; by_cases e : 0 ≤ i <;> simp [e] <;> omega
  have t8 : decide ((m : Int) ≤ i) = !Rb := by rw [← f2]; by_cases e : i < (m : Int) <;> simp [e] <;> omega
  have HL := hid eQ
  clear eS eQ f1 f2 h0 h1
  go_enter Try.func3, Try.ntmps3
  go_wp2_with fail
  refine (awake08 _).mono ?_
  rintro _ w1 ⟨rfl, xw1⟩
  obtain ⟨ha_0, ha_1, ha_2⟩ := (HA.out.ext xw1).at3
  go_wp2_with fail
  refine (C1.out _).mono ?_
  rintro _ _ ⟨rfl, rfl⟩
  clear C1 ha_0 ha_1 ha_2
  obtain ⟨n1, n2, n3, n4, n5⟩ := HT.out
  have K1 := hid n1; have K2 := hid n2; have K3 := hid n3; have K4 := hid n4; have K5 := hid n5
  clear n1 n2 n3 n4 n5 HT
  obtain ⟨ha_0, ha_1, ha_2⟩ := (HA.out.ext xw1).at3
  go_wp2_with fail
  refine (K1.out _ (hW0.out.trans xw1)).mono ?_
  rintro _ w2 ⟨v1, rfl, i1, xw2⟩
  clear ha_0 ha_1 ha_2
  have I1 := hid i1
  obtain ⟨a1, q1, rfl, _, _, kk⟩ := i1
  clear kk K1
  obtain ⟨ha_0, ha_1, ha_2⟩ := (HA.out.ext (xw1.trans xw2)).at3
  go_wp2_with fail
  refine (K2.out _ (hW0.out.trans (xw1.trans xw2))).mono ?_
  rintro _ w3 ⟨v2, rfl, i2, xw3⟩
  clear ha_0 ha_1 ha_2
  have I2 := hid i2
  obtain ⟨a2, q2, rfl, _, _, kk⟩ := i2
  clear kk K2
  obtain ⟨ha_0, ha_1, ha_2⟩ := (HA.out.ext (xw1.trans (xw2.trans xw3))).at3
  go_wp2_with fail
  refine (K3.out _ (hW0.out.trans (xw1.trans (xw2.trans xw3)))).mono ?_
  rintro _ w4 ⟨v3, rfl, i3, xw4⟩
  clear ha_0 ha_1 ha_2
  have I3 := hid i3
  obtain ⟨a3, q3, rfl, _, _, kk⟩ := i3
  clear kk K3
  obtain ⟨ha_0, ha_1, ha_2⟩ := (HA.out.ext (xw1.trans (xw2.trans (xw3.trans xw4)))).at3
  go_wp2_with fail
  refine (K4.out _ (hW0.out.trans (xw1.trans (xw2.trans (xw3.trans xw4))))).mono ?_
  rintro _ w5 ⟨v4, rfl, i4, xw5⟩
  clear ha_0 ha_1 ha_2
  have I4 := hid i4
  obtain ⟨a4, q4, rfl, _, _, kk⟩ := i4
  clear kk K4
  obtain ⟨ha_0, ha_1, ha_2⟩ := (HA.out.ext (xw1.trans (xw2.trans (xw3.trans (xw4.trans xw5))))).at3
  go_wp2_with fail
  refine (K5.out _ (hW0.out.trans (xw1.trans (xw2.trans (xw3.trans (xw4.trans xw5)))))).mono ?_
  rintro _ w6 ⟨v5, rfl, i5, xw6⟩
  clear ha_0 ha_1 ha_2
  have I5 := hid i5
  obtain ⟨a5, q5, rfl, _, _, kk⟩ := i5
  clear kk K5
  obtain ⟨ha_0, ha_1, ha_2⟩ := (HA.out.ext (xw1.trans (xw2.trans (xw3.trans (xw4.trans (xw5.trans xw6)))))).at3
  go_wp2_with fail
  refine (C2.out _ (hW0.out.trans (xw1.trans (xw2.trans (xw3.trans (xw4.trans (xw5.trans xw6))))))).mono ?_
  rintro _ w7 ⟨rfl, xw7⟩
  clear ha_0 ha_1 ha_2
  go_wp2_with fail
  refine (C3.out _ (hW0.out.trans (xw1.trans (xw2.trans (xw3.trans (xw4.trans (xw5.trans (xw6.trans xw7)))))))).mono ?_
  rintro _ _ ⟨rfl, rfl⟩
  obtain ⟨g1, g2, g3, g4, g5, g6⟩ := HK.out
  have G1 := hid g1; have G2 := hid g2; have G3 := hid g3; have G4 := hid g4; have G5 := hid g5; have G6 := hid g6
  clear g1 g2 g3 g4 g5 g6 HK C2 C3
  have e6 : (e1 != e1) = false := by simp
  have e7 : (e2 != e2) = false := by simp
  have e8 : (e3 != e3) = false := by simp
  have e9 : (e4 != e4) = false := by simp
  have e10 : (e5 == e5) = true := by simp
  cases S with
  | false =>
    as_aux_lemma =>
      obtain ⟨⟨rfl, rfl⟩, rfl, rfl⟩ := G1.out (by simp)
      obtain ⟨ha_0, ha_1, ha_2⟩ := (HA.out.ext (xw1.trans (xw2.trans (xw3.trans (xw4.trans (xw5.trans (xw6.trans xw7))))))).at3
      go_wp2_with fail
      refine (G3.out _ (hW0.out.trans (xw1.trans (xw2.trans (xw3.trans (xw4.trans (xw5.trans (xw6.trans xw7)))))))).mono ?_
      rintro _ wk3 ⟨r3, rfl, j3, xwk3⟩
      clear ha_0 ha_1 ha_2
      have J3 := hid j3
      obtain ⟨c3, d3, rfl, _, _, kk⟩ := j3
      clear kk
      obtain ⟨ha_0, ha_1, ha_2⟩ := (HA.out.ext (xw1.trans (xw2.trans (xw3.trans (xw4.trans (xw5.trans (xw6.trans (xw7.trans xwk3)))))))).at3
      go_wp2_with fail
      refine (G4.out _ (hW0.out.trans (xw1.trans (xw2.trans (xw3.trans (xw4.trans (xw5.trans (xw6.trans (xw7.trans xwk3))))))))).mono ?_
      rintro _ wk4 ⟨r4, rfl, j4, xwk4⟩
      clear ha_0 ha_1 ha_2
      have J4 := hid j4
      obtain ⟨c4, d4, rfl, _, _, kk⟩ := j4
      clear kk
      go_wp2_with fail
      refine (same_yes _ _ _ _ (I3.out.ext (xw5.trans (xw6.trans (xw7.trans (xwk3.trans xwk4))))) (J3.out.ext xwk4)).mono ?_
      rintro _ wk5 ⟨rfl, xwk5⟩
      go_wp2_with fail
      refine (same_yes _ _ _ _ (I4.out.ext (xw6.trans (xw7.trans (xwk3.trans (xwk4.trans xwk5))))) (J4.out.ext xwk5)).mono ?_
      rintro _ wk6 ⟨rfl, xwk6⟩
      cases Ra with
      | false =>
        as_aux_lemma =>
          obtain ⟨rfl, rfl⟩ := G5.out (by simp)
          obtain ⟨ha_0, ha_1, ha_2⟩ := (HA.out.ext (xw1.trans (xw2.trans (xw3.trans (xw4.trans (xw5.trans (xw6.trans (xw7.trans (xwk3.trans (xwk4.trans (xwk5.trans xwk6))))))))))).at3
          go_wp2_with fail
          go_ret
          exact ⟨rfl, (hW0.out.trans (xw1.trans (xw2.trans (xw3.trans (xw4.trans (xw5.trans (xw6.trans (xw7.trans (xwk3.trans (xwk4.trans (xwk5.trans xwk6)))))))))))⟩
      | true =>
        cases Rb with
        | false =>
          as_aux_lemma =>
            obtain ⟨rfl, rfl⟩ := G5.out (by simp)
            obtain ⟨ha_0, ha_1, ha_2⟩ := (HA.out.ext (xw1.trans (xw2.trans (xw3.trans (xw4.trans (xw5.trans (xw6.trans (xw7.trans (xwk3.trans (xwk4.trans (xwk5.trans xwk6))))))))))).at3
            go_wp2_with fail
            go_ret
            exact ⟨rfl, (hW0.out.trans (xw1.trans (xw2.trans (xw3.trans (xw4.trans (xw5.trans (xw6.trans (xw7.trans (xwk3.trans (xwk4.trans (xwk5.trans xwk6)))))))))))⟩
        | true =>
          as_aux_lemma =>
            obtain ⟨ha_0, ha_1, ha_2⟩ := (HA.out.ext (xw1.trans (xw2.trans (xw3.trans (xw4.trans (xw5.trans (xw6.trans (xw7.trans (xwk3.trans (xwk4.trans (xwk5.trans xwk6))))))))))).at3
            go_wp2_with fail
            refine (G6.out (by rfl) _ (hW0.out.trans (xw1.trans (xw2.trans (xw3.trans (xw4.trans (xw5.trans (xw6.trans (xw7.trans (xwk3.trans (xwk4.trans (xwk5.trans xwk6)))))))))))).mono ?_
            rintro _ wk7 ⟨r5, rfl, j5, xwk7⟩
            clear ha_0 ha_1 ha_2
            have J5 := hid j5
            obtain ⟨c5, d5, rfl, _, _, kk⟩ := j5
            clear kk
            go_wp2_with fail
            refine (same_yes _ _ _ _ (I5.out.ext (xw7.trans (xwk3.trans (xwk4.trans (xwk5.trans (xwk6.trans xwk7)))))) J5.out).mono ?_
            rintro _ wk8 ⟨rfl, xwk8⟩
            obtain ⟨ha_0, ha_1, ha_2⟩ := (HA.out.ext (xw1.trans (xw2.trans (xw3.trans (xw4.trans (xw5.trans (xw6.trans (xw7.trans (xwk3.trans (xwk4.trans (xwk5.trans (xwk6.trans (xwk7.trans xwk8))))))))))))).at3
            go_wp2_with fail
            go_ret
            exact ⟨rfl, (hW0.out.trans (xw1.trans (xw2.trans (xw3.trans (xw4.trans (xw5.trans (xw6.trans (xw7.trans (xwk3.trans (xwk4.trans (xwk5.trans (xwk6.trans (xwk7.trans xwk8)))))))))))))⟩
  | true =>
    cases Q with
    | false =>
      as_aux_lemma =>
        obtain ⟨⟨rfl, rfl⟩, rfl, rfl⟩ := G1.out (by simp)
        obtain ⟨ha_0, ha_1, ha_2⟩ := (HA.out.ext (xw1.trans (xw2.trans (xw3.trans (xw4.trans (xw5.trans (xw6.trans xw7))))))).at3
        go_wp2_with fail
        refine (G3.out _ (hW0.out.trans (xw1.trans (xw2.trans (xw3.trans (xw4.trans (xw5.trans (xw6.trans xw7)))))))).mono ?_
        rintro _ wk3 ⟨r3, rfl, j3, xwk3⟩
        clear ha_0 ha_1 ha_2
        have J3 := hid j3
        obtain ⟨c3, d3, rfl, _, _, kk⟩ := j3
        clear kk
        obtain ⟨ha_0, ha_1, ha_2⟩ := (HA.out.ext (xw1.trans (xw2.trans (xw3.trans (xw4.trans (xw5.trans (xw6.trans (xw7.trans xwk3)))))))).at3
        go_wp2_with fail
        refine (G4.out _ (hW0.out.trans (xw1.trans (xw2.trans (xw3.trans (xw4.trans (xw5.trans (xw6.trans (xw7.trans xwk3))))))))).mono ?_
        rintro _ wk4 ⟨r4, rfl, j4, xwk4⟩
        clear ha_0 ha_1 ha_2
        have J4 := hid j4
        obtain ⟨c4, d4, rfl, _, _, kk⟩ := j4
        clear kk
        go_wp2_with fail
        refine (same_yes _ _ _ _ (I3.out.ext (xw5.trans (xw6.trans (xw7.trans (xwk3.trans xwk4))))) (J3.out.ext xwk4)).mono ?_
        rintro _ wk5 ⟨rfl, xwk5⟩
        go_wp2_with fail
        refine (same_yes _ _ _ _ (I4.out.ext (xw6.trans (xw7.trans (xwk3.trans (xwk4.trans xwk5))))) (J4.out.ext xwk5)).mono ?_
        rintro _ wk6 ⟨rfl, xwk6⟩
        cases Ra with
        | false =>
          as_aux_lemma =>
            obtain ⟨rfl, rfl⟩ := G5.out (by simp)
            obtain ⟨ha_0, ha_1, ha_2⟩ := (HA.out.ext (xw1.trans (xw2.trans (xw3.trans (xw4.trans (xw5.trans (xw6.trans (xw7.trans (xwk3.trans (xwk4.trans (xwk5.trans xwk6))))))))))).at3
            go_wp2_with fail
            go_ret
            exact ⟨rfl, (hW0.out.trans (xw1.trans (xw2.trans (xw3.trans (xw4.trans (xw5.trans (xw6.trans (xw7.trans (xwk3.trans (xwk4.trans (xwk5.trans xwk6)))))))))))⟩
        | true =>
          cases Rb with
          | false =>
            as_aux_lemma =>
              obtain ⟨rfl, rfl⟩ := G5.out (by simp)
              obtain ⟨ha_0, ha_1, ha_2⟩ := (HA.out.ext (xw1.trans (xw2.trans (xw3.trans (xw4.trans (xw5.trans (xw6.trans (xw7.trans (xwk3.trans (xwk4.trans (xwk5.trans xwk6))))))))))).at3
              go_wp2_with fail
              go_ret
              exact ⟨rfl, (hW0.out.trans (xw1.trans (xw2.trans (xw3.trans (xw4.trans (xw5.trans (xw6.trans (xw7.trans (xwk3.trans (xwk4.trans (xwk5.trans xwk6)))))))))))⟩
          | true =>
            as_aux_lemma =>
              obtain ⟨ha_0, ha_1, ha_2⟩ := (HA.out.ext (xw1.trans (xw2.trans (xw3.trans (xw4.trans (xw5.trans (xw6.trans (xw7.trans (xwk3.trans (xwk4.trans (xwk5.trans xwk6))))))))))).at3
              go_wp2_with fail
              refine (G6.out (by rfl) _ (hW0.out.trans (xw1.trans (xw2.trans (xw3.trans (xw4.trans (xw5.trans (xw6.trans (xw7.trans (xwk3.trans (xwk4.trans (xwk5.trans xwk6)))))))))))).mono ?_
              rintro _ wk7 ⟨r5, rfl, j5, xwk7⟩
              clear ha_0 ha_1 ha_2
              have J5 := hid j5
              obtain ⟨c5, d5, rfl, _, _, kk⟩ := j5
              clear kk
              go_wp2_with fail
              refine (same_yes _ _ _ _ (I5.out.ext (xw7.trans (xwk3.trans (xwk4.trans (xwk5.trans (xwk6.trans xwk7)))))) J5.out).mono ?_
              rintro _ wk8 ⟨rfl, xwk8⟩
              obtain ⟨ha_0, ha_1, ha_2⟩ := (HA.out.ext (xw1.trans (xw2.trans (xw3.trans (xw4.trans (xw5.trans (xw6.trans (xw7.trans (xwk3.trans (xwk4.trans (xwk5.trans (xwk6.trans (xwk7.trans xwk8))))))))))))).at3
              go_wp2_with fail
              go_ret
              exact ⟨rfl, (hW0.out.trans (xw1.trans (xw2.trans (xw3.trans (xw4.trans (xw5.trans (xw6.trans (xw7.trans (xwk3.trans (xwk4.trans (xwk5.trans (xwk6.trans (xwk7.trans xwk8)))))))))))))⟩
    | true =>
      as_aux_lemma =>
        obtain ⟨g1, g2⟩ := G2.out (by rfl)
        have M1 := hid g1; have M2 := hid g2
        clear g1 g2
        obtain ⟨ha_0, ha_1, ha_2⟩ := (HA.out.ext (xw1.trans (xw2.trans (xw3.trans (xw4.trans (xw5.trans (xw6.trans xw7))))))).at3
        go_wp2_with fail
        refine (M1.out _ (hW0.out.trans (xw1.trans (xw2.trans (xw3.trans (xw4.trans (xw5.trans (xw6.trans xw7)))))))).mono ?_
        rintro _ wk1 ⟨r1, rfl, j1, xwk1⟩
        clear ha_0 ha_1 ha_2
        have J1 := hid j1
        obtain ⟨c1, d1, rfl, _, _, kk⟩ := j1
        clear kk
        obtain ⟨ha_0, ha_1, ha_2⟩ := (HA.out.ext (xw1.trans (xw2.trans (xw3.trans (xw4.trans (xw5.trans (xw6.trans (xw7.trans xwk1)))))))).at3
        go_wp2_with fail
        refine (M2.out _ (hW0.out.trans (xw1.trans (xw2.trans (xw3.trans (xw4.trans (xw5.trans (xw6.trans (xw7.trans xwk1))))))))).mono ?_
        rintro _ wk2 ⟨r2, rfl, j2, xwk2⟩
        clear ha_0 ha_1 ha_2
        have J2 := hid j2
        obtain ⟨c2, d2, rfl, _, _, kk⟩ := j2
        clear kk
        go_wp2_with fail
        refine (same_yes _ _ _ _ (I1.out.ext (xw3.trans (xw4.trans (xw5.trans (xw6.trans (xw7.trans (xwk1.trans xwk2))))))) (J1.out.ext xwk2)).mono ?_
        rintro _ wk9 ⟨rfl, xwk9⟩
        go_wp2_with fail
        refine (same_yes _ _ _ _ (I2.out.ext (xw4.trans (xw5.trans (xw6.trans (xw7.trans (xwk1.trans (xwk2.trans xwk9))))))) (J2.out.ext xwk9)).mono ?_
        rintro _ wk10 ⟨rfl, xwk10⟩
        obtain ⟨ha_0, ha_1, ha_2⟩ := (HA.out.ext (xw1.trans (xw2.trans (xw3.trans (xw4.trans (xw5.trans (xw6.trans (xw7.trans (xwk1.trans (xwk2.trans (xwk9.trans xwk10))))))))))).at3
        go_wp2_with fail
        refine (G3.out _ (hW0.out.trans (xw1.trans (xw2.trans (xw3.trans (xw4.trans (xw5.trans (xw6.trans (xw7.trans (xwk1.trans (xwk2.trans (xwk9.trans xwk10)))))))))))).mono ?_
        rintro _ wk3 ⟨r3, rfl, j3, xwk3⟩
        clear ha_0 ha_1 ha_2
        have J3 := hid j3
        obtain ⟨c3, d3, rfl, _, _, kk⟩ := j3
        clear kk
        obtain ⟨ha_0, ha_1, ha_2⟩ := (HA.out.ext (xw1.trans (xw2.trans (xw3.trans (xw4.trans (xw5.trans (xw6.trans (xw7.trans (xwk1.trans (xwk2.trans (xwk9.trans (xwk10.trans xwk3)))))))))))).at3
        go_wp2_with fail
        refine (G4.out _ (hW0.out.trans (xw1.trans (xw2.trans (xw3.trans (xw4.trans (xw5.trans (xw6.trans (xw7.trans (xwk1.trans (xwk2.trans (xwk9.trans (xwk10.trans xwk3))))))))))))).mono ?_
        rintro _ wk4 ⟨r4, rfl, j4, xwk4⟩
        clear ha_0 ha_1 ha_2
        have J4 := hid j4
        obtain ⟨c4, d4, rfl, _, _, kk⟩ := j4
        clear kk
        go_wp2_with fail
        refine (same_yes _ _ _ _ (I3.out.ext (xw5.trans (xw6.trans (xw7.trans (xwk1.trans (xwk2.trans (xwk9.trans (xwk10.trans (xwk3.trans xwk4))))))))) (J3.out.ext xwk4)).mono ?_
        rintro _ wk5 ⟨rfl, xwk5⟩
        go_wp2_with fail
        refine (same_yes _ _ _ _ (I4.out.ext (xw6.trans (xw7.trans (xwk1.trans (xwk2.trans (xwk9.trans (xwk10.trans (xwk3.trans (xwk4.trans xwk5))))))))) (J4.out.ext xwk5)).mono ?_
        rintro _ wk6 ⟨rfl, xwk6⟩
        cases Ra with
        | false =>
          as_aux_lemma =>
            obtain ⟨rfl, rfl⟩ := G5.out (by simp)
            obtain ⟨ha_0, ha_1, ha_2⟩ := (HA.out.ext (xw1.trans (xw2.trans (xw3.trans (xw4.trans (xw5.trans (xw6.trans (xw7.trans (xwk1.trans (xwk2.trans (xwk9.trans (xwk10.trans (xwk3.trans (xwk4.trans (xwk5.trans xwk6))))))))))))))).at3
            go_wp2_with fail
            go_ret
            exact ⟨rfl, (hW0.out.trans (xw1.trans (xw2.trans (xw3.trans (xw4.trans (xw5.trans (xw6.trans (xw7.trans (xwk1.trans (xwk2.trans (xwk9.trans (xwk10.trans (xwk3.trans (xwk4.trans (xwk5.trans xwk6)))))))))))))))⟩
        | true =>
          cases Rb with
          | false =>
            as_aux_lemma =>
              obtain ⟨rfl, rfl⟩ := G5.out (by simp)
              obtain ⟨ha_0, ha_1, ha_2⟩ := (HA.out.ext (xw1.trans (xw2.trans (xw3.trans (xw4.trans (xw5.trans (xw6.trans (xw7.trans (xwk1.trans (xwk2.trans (xwk9.trans (xwk10.trans (xwk3.trans (xwk4.trans (xwk5.trans xwk6))))))))))))))).at3
              go_wp2_with fail
              go_ret
              exact ⟨rfl, (hW0.out.trans (xw1.trans (xw2.trans (xw3.trans (xw4.trans (xw5.trans (xw6.trans (xw7.trans (xwk1.trans (xwk2.trans (xwk9.trans (xwk10.trans (xwk3.trans (xwk4.trans (xwk5.trans xwk6)))))))))))))))⟩
          | true =>
            as_aux_lemma =>
              obtain ⟨ha_0, ha_1, ha_2⟩ := (HA.out.ext (xw1.trans (xw2.trans (xw3.trans (xw4.trans (xw5.trans (xw6.trans (xw7.trans (xwk1.trans (xwk2.trans (xwk9.trans (xwk10.trans (xwk3.trans (xwk4.trans (xwk5.trans xwk6))))))))))))))).at3
              go_wp2_with fail
              refine (G6.out (by rfl) _ (hW0.out.trans (xw1.trans (xw2.trans (xw3.trans (xw4.trans (xw5.trans (xw6.trans (xw7.trans (xwk1.trans (xwk2.trans (xwk9.trans (xwk10.trans (xwk3.trans (xwk4.trans (xwk5.trans xwk6)))))))))))))))).mono ?_
              rintro _ wk7 ⟨r5, rfl, j5, xwk7⟩
              clear ha_0 ha_1 ha_2
              have J5 := hid j5
              obtain ⟨c5, d5, rfl, _, _, kk⟩ := j5
              clear kk
              go_wp2_with fail
              refine (same_yes _ _ _ _ (I5.out.ext (xw7.trans (xwk1.trans (xwk2.trans (xwk9.trans (xwk10.trans (xwk3.trans (xwk4.trans (xwk5.trans (xwk6.trans xwk7)))))))))) J5.out).mono ?_
              rintro _ wk8 ⟨rfl, xwk8⟩
              obtain ⟨ha_0, ha_1, ha_2⟩ := (HA.out.ext (xw1.trans (xw2.trans (xw3.trans (xw4.trans (xw5.trans (xw6.trans (xw7.trans (xwk1.trans (xwk2.trans (xwk9.trans (xwk10.trans (xwk3.trans (xwk4.trans (xwk5.trans (xwk6.trans (xwk7.trans xwk8))))))))))))))))).at3
              go_wp2_with fail
              go_ret
              exact ⟨rfl, (hW0.out.trans (xw1.trans (xw2.trans (xw3.trans (xw4.trans (xw5.trans (xw6.trans (xw7.trans (xwk1.trans (xwk2.trans (xwk9.trans (xwk10.trans (xwk3.trans (xwk4.trans (xwk5.trans (xwk6.trans (xwk7.trans xwk8)))))))))))))))))⟩

/-- the law answers true -/
theorem walk (p r c : Int) (v : Value) (xs : List Int) (u : Value) (b : List Int) (i : Int) (w : World) (hp : (Lit.int .u64 p).wf = true) (_ : (Lit.int .i64 r).wf = true) (_ : (Lit.int .i64 c).wf = true) (hv : Ints .u64 w v xs) (hx : ∀ x ∈ xs, (Lit.int .u64 x).wf = true) (hu : Ints .u64 w u b) (hy : ∀ x ∈ b, (Lit.int .u64 x).wf = true) (_ : (Lit.int .i64 i).wf = true) :
    Calls Try.prog 3 #[.int .u64 p, .agg #[.int .i64 r, .int .i64 c, v], u, .int .i64 i] w (Ret (.bool true) w) := by
  have hx' : U64s xs := fun x h => u64_wf (hx x h)
  have hy' : U64s b := fun x h => u64_wf (hy x h)
  cases h : goB p r c xs b with
  | false => exact walk_skip p r c v u i xs b w (u64_wf hp).1 (u64_wf hp).2 hv hx' hu hy' h
  | true =>
    unfold goB at h
    simp only [Bool.and_eq_true, decide_eq_true_eq] at h
    obtain ⟨h1, h2, h3, h4, h5⟩ := h
    cases hM : matB p r c xs with
    | false => exact walk_no p r c v u i xs b w (u64_wf hp).1 (u64_wf hp).2 hv hx' hu hy' h3 h1 h2 h4 h5 hM
    | true =>
      obtain ⟨m, n, rfl, rfl, ok⟩ := MatOk.of hx' hM
      exact walk_yes p m n v u i xs b w ok (taken_fld h3) hv hu hy' h3 h1 h2 h4 h5

theorem own : ownKnob Try.prog.godebug = none := by kernel_rfl
set_option maxRecDepth 100000 in
theorem lifted (os : Os) (started : os.Started) (H : Type) (enc : TypeId × Value → H) :
    ReturnsInHanded {} Try.checked os 3 .any (Rows.solveRightSpec.pre6 enc Try.prog Try.f3 Rows.solveRightRow.domain false) (Rows.solveRightSpec.post enc Try.prog Try.f3 false true false false) := by
  refine returnsInHanded_of_change (C := Try.checked) own started (by kernel_rfl) Try.func3
    (ChangeSpec.witness6 (enc := enc) (C := Try.checked) false ⟨#[], #[.int .u64 0, .agg #[.int .i64 0, .int .i64 0, .slice none 0 0], .slice none 0 0, .int .i64 0], []⟩ 8 (by kernel_rfl) (by kernel_rfl) (by kernel_rfl) (by kernel_rfl)) ?_
  intro W base args ds gs before hval0 hW _ _
  have hval : ∀ (j : Nat) t v, Try.f3.params[j]? = some t → args[j]? = some v → Value.okWide Try.prog W .any base t v := hval0
  have hW' := hW
  obtain ⟨p, q, hA0, hV, rfl, _, _⟩ := hW
  have hA : DataW.TrodAll enc Try.prog W 0 (fun _ => true) true Try.f3.params.toList args.toList ds p := hA0
  rw [Try.params3] at hA hval
  obtain ⟨v0, vs0, d0, ds0, p0, q0, hargs, rfl, rfl, h0, r0⟩ := trodAll_cons hA
  obtain ⟨v1, vs1, d1, ds1, p1, q1, rfl, rfl, rfl, h1, r1⟩ := trodAll_cons r0
  obtain ⟨v2, vs2, d2, ds2, p2, q2, rfl, rfl, rfl, h2, r2⟩ := trodAll_cons r1
  obtain ⟨v3, vs3, d3, ds3, p3, q3, rfl, rfl, rfl, h3, r3⟩ := trodAll_cons r2
  obtain ⟨rfl, rfl, rfl⟩ := trodAll_nil r3
  obtain rfl : args = #[v0, v1, v2, v3] := by cases args; simp_all
  obtain ⟨rfl, rfl⟩ := trodVars_none hV
  obtain ⟨a0, rfl, rfl, rfl, w0⟩ := open_int Try.underlying22 (hval 0 22 v0 rfl rfl) h0
  obtain ⟨mr1, mc1, mu1, xs1, rfl, wr1, wc1, i1, w1⟩ := open_Mat (hval 1 25 v1 rfl rfl) h1
  obtain ⟨xs2, i2, w2⟩ := open_Ints Try.underlying23 Try.underlying22 (by kernel_rfl) (hval 2 23 v2 rfl rfl) h2
  obtain ⟨a3, rfl, rfl, rfl, w3⟩ := open_int Try.underlying3 (hval 3 3 v3 rfl rfl) h3
  refine (walk a0 mr1 mc1 mu1 xs1 v2 xs2 a3 W w0 wr1 wc1 i1 w1 i2 w2 w3).mono fun e W' ⟨he, hg⟩ => ⟨_, he, ?_⟩
  exact law_post (by kernel_rfl) (by kernel_rfl) rfl Try.underlying4 rfl rfl hW' hg

/-- the statement -/
theorem proved : Rows.SolveRightSaid :=
  OpenClaim.holds_of_wide 3 Try.f3 rfl rfl rfl rfl rfl rfl rfl ⟨rfl, rfl, rfl, rfl, rfl⟩ rfl rfl rfl rfl rfl (by kernel_rfl) Try.func3 (by kernel_rfl)
    (of_decide_eq_true (by kernel_rfl)) (by unfold Func.isWrapper; first | (rw [if_pos (by decide +kernel)]; kernel_rfl) | (rw [if_neg (by decide +kernel)]; exact ⟨rfl, rfl⟩))
    (fun os started H enc _ => lifted os started H enc)
end Go.Proofs.Ytfpmcajndgkgeaa.solveRight
