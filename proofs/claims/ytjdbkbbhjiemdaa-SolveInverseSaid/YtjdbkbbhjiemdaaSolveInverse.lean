/- SolveInverse: whatever the number and the two matrices, the law answers true, and nothing that was there has turned. No condition. -/
import Derived.Test.YtjdbkbbhjiemdaaSolB6
import Derived.Test.YtjdbkbbhjiemdaaAwake08
import Derived.Test.YtjdbkbbhjiemdaaOpenMat
import Derived.Test.YtjdbkbbhjiemdaaMx5
import Derived.Test.YtjdbkbbhjiemdaaCupB5
import Derived.Test.YtjdbkbbhjiemdaaMat1
namespace Go.Proofs.Ytjdbkbbhjiemdaa.solveInverse
open Go.ChangeShapes Go.WideShapes Go.ChangeAt Go.RowKit Go.Maps

/-- no matrix, and an error's number, written out -/
def RetN0 (code : Int) (w : World) (e : Ending) (w' : World) : Prop := ∃ a k, e = .returned (.tuple #[.agg #[.int .i64 0, .int .i64 0, .slice a 0 k], .int .i64 code]) ∧ Ext w w'
theorem retN0 {code : Int} {w : World} {f : Nat} {xs : Array Value} (h : Calls Try.prog f xs w (RetNo code w)) : Calls Try.prog f xs w (RetN0 code w) := by
  refine h.mono ?_
  rintro _ w' ⟨u, rfl, hu, hx⟩
  obtain ⟨a, cap, rfl, _, _, _⟩ := hu
  exact ⟨a, cap, rfl, hx⟩
/-- does the law go on? -/
noncomputable def goB (p r c r' c' : Int) (xs ys : List Int) : Bool := decide (xs.length ≤ 64) && (decide (ys.length ≤ 64) && (takenB p && (matB p r c xs && matB p r' c' ys)))
set_option maxRecDepth 100000 in
set_option maxHeartbeats 2000000 in
theorem walk_skip (p r c r' c' : Int) (v u : Value) (xs ys : List Int) (w : World) (h0 : 0 ≤ p) (h1 : p ≤ 18446744073709551615) (hv : Ints .u64 w v xs) (hx : U64s xs) (hu : Ints .u64 w u ys) (hy : U64s ys) (h : goB p r c r' c' xs ys = false) :
    Calls Try.prog 6 #[.int .u64 p, matV r c v, matV r' c' u] w (Ret (.bool true) w) := by
  have C1 := hid fun (W : World) => prime_any p W h0
  have C2 := hid fun (W : World) (hW : Ext w W) => mxRight p r c v xs W h0 h1 (hv.ext hW) hx
  have C3 := hid fun (W : World) (hW : Ext w W) => mxRight p r' c' u ys W h0 h1 (hu.ext hW) hy
  unfold goB at h
  obtain ⟨T, e1⟩ : ∃ B, takenB p = B := ⟨_, rfl⟩
  obtain ⟨M, e2⟩ : ∃ B, matB p r c xs = B := ⟨_, rfl⟩
  obtain ⟨S, e3⟩ : ∃ B, matB p r' c' ys = B := ⟨_, rfl⟩
  obtain ⟨Q, e4⟩ : ∃ B, decide (ys.length ≤ 64) = B := ⟨_, rfl⟩
  obtain ⟨K, e5⟩ : ∃ B, decide (xs.length ≤ 64) = B := ⟨_, rfl⟩
  rw [e1] at C1 h; rw [e2] at C2 h; rw [e3] at C3 h; rw [e4, e5] at h
  have t4 : decide (64 < (ys.length : Int)) = !Q := by rw [← e4]; by_cases e : ys.length ≤ 64 <;> simp [e] <;> omega
  have t5 : decide (64 < (xs.length : Int)) = !K := by rw [← e5]; by_cases e : xs.length ≤ 64 <;> simp [e] <;> omega
  obtain ⟨a, cap, rfl, k1, k2, k3⟩ := hv
  obtain ⟨a', cap', rfl, k1', k2', k3'⟩ := hu
  clear k3 k3' hx hy e1 e2 e3 e4 e5
  have hb2 := hid (boxes2 w 25 25 #[.int .i64 r, .int .i64 c, .slice a xs.length cap] #[.int .i64 r', .int .i64 c', .slice a' ys.length cap'])
  have HA := hid hb2.out.1; have HB := hid hb2.out.2.1; have hW0 := hid hb2.out.2.2
  unfold matV at C2 C3
  unfold matV
  have T4 := hid t4; have T5 := hid t5; have H := hid h
  clear t4 t5 h hb2
  cases K with
  | false =>
    as_aux_lemma =>
      have t4 := T4.out
      have t5 := T5.out
      go_enter Try.func6, Try.ntmps6
      go_wp2_with fail
      refine (awake08 _).mono ?_
      rintro _ w1 ⟨rfl, xw1⟩
      obtain ⟨ha_0, ha_1, ha_2⟩ := (HA.out.ext xw1).at3
      obtain ⟨hb_0, hb_1, hb_2⟩ := (HB.out.ext xw1).at3
      go_wp2_with fail
      go_ret
      exact ⟨rfl, (hW0.out.trans xw1)⟩
  | true =>
    cases Q with
    | false =>
      as_aux_lemma =>
        have t4 := T4.out
        have t5 := T5.out
        go_enter Try.func6, Try.ntmps6
        go_wp2_with fail
        refine (awake08 _).mono ?_
        rintro _ w1 ⟨rfl, xw1⟩
        obtain ⟨ha_0, ha_1, ha_2⟩ := (HA.out.ext xw1).at3
        obtain ⟨hb_0, hb_1, hb_2⟩ := (HB.out.ext xw1).at3
        go_wp2_with fail
        go_ret
        exact ⟨rfl, (hW0.out.trans xw1)⟩
    | true =>
      cases T with
      | false =>
        as_aux_lemma =>
          have t4 := T4.out
          have t5 := T5.out
          go_enter Try.func6, Try.ntmps6
          go_wp2_with fail
          refine (awake08 _).mono ?_
          rintro _ w1 ⟨rfl, xw1⟩
          obtain ⟨ha_0, ha_1, ha_2⟩ := (HA.out.ext xw1).at3
          obtain ⟨hb_0, hb_1, hb_2⟩ := (HB.out.ext xw1).at3
          go_wp2_with fail
          refine (C1.out _).mono ?_
          rintro _ _ ⟨rfl, rfl⟩
          go_wp2_with fail
          go_ret
          exact ⟨rfl, (hW0.out.trans xw1)⟩
      | true =>
        cases M with
        | false =>
          as_aux_lemma =>
            have t4 := T4.out
            have t5 := T5.out
            go_enter Try.func6, Try.ntmps6
            go_wp2_with fail
            refine (awake08 _).mono ?_
            rintro _ w1 ⟨rfl, xw1⟩
            obtain ⟨ha_0, ha_1, ha_2⟩ := (HA.out.ext xw1).at3
            obtain ⟨hb_0, hb_1, hb_2⟩ := (HB.out.ext xw1).at3
            go_wp2_with fail
            refine (C1.out _).mono ?_
            rintro _ _ ⟨rfl, rfl⟩
            go_wp2_with fail
            refine (C2.out _ (hW0.out.trans xw1)).mono ?_
            rintro _ w2 ⟨rfl, xw2⟩
            clear ha_0 ha_1 ha_2 hb_0 hb_1 hb_2
            obtain ⟨ha_0, ha_1, ha_2⟩ := (HA.out.ext (xw1.trans xw2)).at3
            obtain ⟨hb_0, hb_1, hb_2⟩ := (HB.out.ext (xw1.trans xw2)).at3
            go_wp2_with fail
            go_ret
            exact ⟨rfl, (hW0.out.trans (xw1.trans xw2))⟩
        | true =>
          cases S with
          | false =>
            as_aux_lemma =>
              have t4 := T4.out
              have t5 := T5.out
              go_enter Try.func6, Try.ntmps6
              go_wp2_with fail
              refine (awake08 _).mono ?_
              rintro _ w1 ⟨rfl, xw1⟩
              obtain ⟨ha_0, ha_1, ha_2⟩ := (HA.out.ext xw1).at3
              obtain ⟨hb_0, hb_1, hb_2⟩ := (HB.out.ext xw1).at3
              go_wp2_with fail
              refine (C1.out _).mono ?_
              rintro _ _ ⟨rfl, rfl⟩
              go_wp2_with fail
              refine (C2.out _ (hW0.out.trans xw1)).mono ?_
              rintro _ w2 ⟨rfl, xw2⟩
              clear ha_0 ha_1 ha_2 hb_0 hb_1 hb_2
              obtain ⟨ha_0, ha_1, ha_2⟩ := (HA.out.ext (xw1.trans xw2)).at3
              obtain ⟨hb_0, hb_1, hb_2⟩ := (HB.out.ext (xw1.trans xw2)).at3
              go_wp2_with fail
              refine (C3.out _ (hW0.out.trans (xw1.trans xw2))).mono ?_
              rintro _ w3 ⟨rfl, xw3⟩
              clear ha_0 ha_1 ha_2 hb_0 hb_1 hb_2
              obtain ⟨ha_0, ha_1, ha_2⟩ := (HA.out.ext (xw1.trans (xw2.trans xw3))).at3
              obtain ⟨hb_0, hb_1, hb_2⟩ := (HB.out.ext (xw1.trans (xw2.trans xw3))).at3
              go_wp2_with fail
              go_ret
              exact ⟨rfl, (hW0.out.trans (xw1.trans (xw2.trans xw3)))⟩
          | true => exact absurd H.out (by decide)

set_option maxRecDepth 100000 in
set_option maxHeartbeats 4000000 in
theorem walk_flat (p : Int) (r c : Int) (r' c' : Int) (v u : Value) (xs ys : List Int) (w : World) (h0 : 0 ≤ p) (h1 : p ≤ 18446744073709551615) (hT : takenB p = true) (hxy : xs.length ≤ 64 ∧ ys.length ≤ 64) (hM : matB p r c xs = true) (hS : matB p r' c' ys = true) (hx : U64s xs) (hy : U64s ys) (hv : Ints .u64 w v xs) (hu : Ints .u64 w u ys) (hrc : r ≠ c) :
    Calls Try.prog 6 #[.int .u64 p, matV r c v, matV r' c' u] w (Ret (.bool true) w) := by
  have C1 := hid fun (W : World) => (hT ▸ prime_any p W h0 : Calls Try.prog 9 #[.int .u64 p] W fun e w' => e = .returned (.bool true) ∧ W = w')
  have C2 := hid fun (W : World) (hW : Ext w W) => (hM ▸ mxRight p r c v xs W h0 h1 (hv.ext hW) hx : Calls Try.prog 23 #[.int .u64 p, matV r c v] W (Ret (.bool true) W))
  have C3 := hid fun (W : World) (hW : Ext w W) => (hS ▸ mxRight p r' c' u ys W h0 h1 (hu.ext hW) hy : Calls Try.prog 23 #[.int .u64 p, matV r' c' u] W (Ret (.bool true) W))
  have C4 := hid fun (W : World) (hW : Ext w W) => retN0 (svInverse_arg p r c v xs W h0 h1 (hv.ext hW) hx (by rw [hM, decide_eq_false hrc]; rfl))
  have C5 := hid fun (W : World) (hW : Ext w W) => (show Calls Try.prog 31 #[.int .u64 p, matV r c v] W (Ret (.tuple #[.int .u64 0, .int .i64 1]) W) from by
    have h := cmDet p r c v xs W h0 h1 (hv.ext hW) hx fun _ => taken_fld hT
    unfold detV detErr at h
    rwa [hM, decide_eq_false hrc, if_neg (by decide), if_neg (by decide)] at h)
  have t6 : (r != c) = true := by rw [bne_iff_ne]; exact hrc
  have t4 : decide (64 < (ys.length : Int)) = false := decide_eq_false (by omega)
  have t5 : decide (64 < (xs.length : Int)) = false := decide_eq_false (by omega)
  have t4' : decide (64 < ys.length) = false := decide_eq_false (by omega)
  have t5' : decide (64 < xs.length) = false := decide_eq_false (by omega)
  have hxl := hxy.1; have hyl := hxy.2
  clear hT hM hS hx hy hxy hrc
  obtain ⟨a, cap, rfl, k1, k2, k3⟩ := hv
  obtain ⟨a', cap', rfl, k1', k2', k3'⟩ := hu
  clear k3 k3'
  have hb2 := hid (boxes2 w 25 25 #[.int .i64 r, .int .i64 c, .slice a xs.length cap] #[.int .i64 r', .int .i64 c', .slice a' ys.length cap'])
  have HA := hid hb2.out.1; have HB := hid hb2.out.2.1; have hW0 := hid hb2.out.2.2
  unfold matV at C2 C3 C4 C5
  unfold matV
  clear hb2
  go_enter Try.func6, Try.ntmps6
  go_wp2_with fail
  refine (awake08 _).mono ?_
  rintro _ w1 ⟨rfl, xw1⟩
  obtain ⟨ha_0, ha_1, ha_2⟩ := (HA.out.ext xw1).at3
  obtain ⟨hb_0, hb_1, hb_2⟩ := (HB.out.ext xw1).at3
  go_wp2_with fail
  refine (C1.out _).mono ?_
  rintro _ _ ⟨rfl, rfl⟩
  go_wp2_with fail
  refine (C2.out _ (hW0.out.trans xw1)).mono ?_
  rintro _ w2 ⟨rfl, xw2⟩
  clear ha_0 ha_1 ha_2 hb_0 hb_1 hb_2
  obtain ⟨ha_0, ha_1, ha_2⟩ := (HA.out.ext (xw1.trans xw2)).at3
  obtain ⟨hb_0, hb_1, hb_2⟩ := (HB.out.ext (xw1.trans xw2)).at3
  go_wp2_with fail
  refine (C3.out _ (hW0.out.trans (xw1.trans xw2))).mono ?_
  rintro _ w3 ⟨rfl, xw3⟩
  clear ha_0 ha_1 ha_2 hb_0 hb_1 hb_2 C1 C2 C3
  obtain ⟨ha_0, ha_1, ha_2⟩ := (HA.out.ext (xw1.trans (xw2.trans xw3))).at3
  go_wp2_with fail
  refine (C4.out _ (hW0.out.trans (xw1.trans (xw2.trans xw3)))).mono ?_
  rintro _ w4 ⟨aU, kU, rfl, xw4⟩
  clear ha_0 ha_1 ha_2
  have z6 := (Ext.refl w4).alloc (.cells #[.int .i64 0, .int .i64 0, .slice aU 0 kU] 25)
  have HU := hid (Blk.new w4 25 #[.int .i64 0, .int .i64 0, .slice aU 0 kU])
  obtain ⟨ha_0, ha_1, ha_2⟩ := (HA.out.ext (xw1.trans (xw2.trans (xw3.trans (xw4.trans z6))))).at3
  go_wp2_with fail
  refine (C5.out _ (hW0.out.trans (xw1.trans (xw2.trans (xw3.trans (xw4.trans z6)))))).mono ?_
  rintro _ w5 ⟨rfl, xw5⟩
  clear ha_0 ha_1 ha_2
  obtain ⟨ha_0, ha_1, ha_2⟩ := (HA.out.ext (xw1.trans (xw2.trans (xw3.trans (xw4.trans (z6.trans xw5)))))).at3
  obtain ⟨hu_0, hu_1, hu_2⟩ := (HU.out.ext xw5).at3
  go_wp2_with fail
  go_ret
  exact ⟨rfl, (hW0.out.trans (xw1.trans (xw2.trans (xw3.trans (xw4.trans (z6.trans xw5))))))⟩

set_option maxRecDepth 100000 in
set_option maxHeartbeats 4000000 in
theorem walk_sing (p : Int) (n : Nat) (r' c' : Int) (v u : Value) (xs ys : List Int) (w : World) (h0 : 0 ≤ p) (h1 : p ≤ 18446744073709551615) (hT : takenB p = true) (hxy : xs.length ≤ 64 ∧ ys.length ≤ 64) (hM : matB p n n xs = true) (hS : matB p r' c' ys = true) (hx : U64s xs) (hy : U64s ys) (hv : Ints .u64 w v xs) (hu : Ints .u64 w u ys) (hr : (takeL p n n xs).U.length ≠ n) :
    Calls Try.prog 6 #[.int .u64 p, matV n n v, matV r' c' u] w (Ret (.bool true) w) := by
  have C1 := hid fun (W : World) => (hT ▸ prime_any p W h0 : Calls Try.prog 9 #[.int .u64 p] W fun e w' => e = .returned (.bool true) ∧ W = w')
  have C2 := hid fun (W : World) (hW : Ext w W) => (hM ▸ mxRight p n n v xs W h0 h1 (hv.ext hW) hx : Calls Try.prog 23 #[.int .u64 p, matV n n v] W (Ret (.bool true) W))
  have C3 := hid fun (W : World) (hW : Ext w W) => (hS ▸ mxRight p r' c' u ys W h0 h1 (hu.ext hW) hy : Calls Try.prog 23 #[.int .u64 p, matV r' c' u] W (Ret (.bool true) W))
  have okA : MatOk p n n xs := by
    obtain ⟨m', n', e1, e2, ok⟩ := MatOk.of hx hM
    obtain rfl : m' = n := by omega
    obtain rfl : n' = m' := by omega
    exact ok
  have hf := taken_fld hT
  have hp2 := rightB_true okA.hp
  have C4 := hid fun (W : World) (hW : Ext w W) => retN0 (svInverse_no p n v xs W okA hf (hv.ext hW) hr)
  have C5 := hid fun (W : World) (hW : Ext w W) => (show Calls Try.prog 31 #[.int .u64 p, matV n n v] W (Ret (.tuple #[.int .u64 0, .int .i64 0]) W) from by
    have h := cmDet p n n v xs W h0 h1 (hv.ext hW) hx fun _ => hf
    unfold detV detErr at h
    rwa [hM, decide_eq_true (rfl : (n : Int) = n), if_pos (by rfl), if_pos (by rfl), Int.toNat_natCast, (det_rank hp2.1 hf okA.hx).2 hr] at h)
  have t6 : ((n : Int) != (n : Int)) = false := by simp
  have t4 : decide (64 < (ys.length : Int)) = false := decide_eq_false (by omega)
  have t5 : decide (64 < (xs.length : Int)) = false := decide_eq_false (by omega)
  have t4' : decide (64 < ys.length) = false := decide_eq_false (by omega)
  have t5' : decide (64 < xs.length) = false := decide_eq_false (by omega)
  have hxl := hxy.1; have hyl := hxy.2
  clear hT hM hS hx hy hxy hr okA hf hp2
  obtain ⟨a, cap, rfl, k1, k2, k3⟩ := hv
  obtain ⟨a', cap', rfl, k1', k2', k3'⟩ := hu
  clear k3 k3'
  have hb2 := hid (boxes2 w 25 25 #[.int .i64 n, .int .i64 n, .slice a xs.length cap] #[.int .i64 r', .int .i64 c', .slice a' ys.length cap'])
  have HA := hid hb2.out.1; have HB := hid hb2.out.2.1; have hW0 := hid hb2.out.2.2
  unfold matV at C2 C3 C4 C5
  unfold matV
  clear hb2
  go_enter Try.func6, Try.ntmps6
  go_wp2_with fail
  refine (awake08 _).mono ?_
  rintro _ w1 ⟨rfl, xw1⟩
  obtain ⟨ha_0, ha_1, ha_2⟩ := (HA.out.ext xw1).at3
  obtain ⟨hb_0, hb_1, hb_2⟩ := (HB.out.ext xw1).at3
  go_wp2_with fail
  refine (C1.out _).mono ?_
  rintro _ _ ⟨rfl, rfl⟩
  go_wp2_with fail
  refine (C2.out _ (hW0.out.trans xw1)).mono ?_
  rintro _ w2 ⟨rfl, xw2⟩
  clear ha_0 ha_1 ha_2 hb_0 hb_1 hb_2
  obtain ⟨ha_0, ha_1, ha_2⟩ := (HA.out.ext (xw1.trans xw2)).at3
  obtain ⟨hb_0, hb_1, hb_2⟩ := (HB.out.ext (xw1.trans xw2)).at3
  go_wp2_with fail
  refine (C3.out _ (hW0.out.trans (xw1.trans xw2))).mono ?_
  rintro _ w3 ⟨rfl, xw3⟩
  clear ha_0 ha_1 ha_2 hb_0 hb_1 hb_2 C1 C2 C3
  obtain ⟨ha_0, ha_1, ha_2⟩ := (HA.out.ext (xw1.trans (xw2.trans xw3))).at3
  go_wp2_with fail
  refine (C4.out _ (hW0.out.trans (xw1.trans (xw2.trans xw3)))).mono ?_
  rintro _ w4 ⟨aU, kU, rfl, xw4⟩
  clear ha_0 ha_1 ha_2
  have z6 := (Ext.refl w4).alloc (.cells #[.int .i64 0, .int .i64 0, .slice aU 0 kU] 25)
  have HU := hid (Blk.new w4 25 #[.int .i64 0, .int .i64 0, .slice aU 0 kU])
  obtain ⟨ha_0, ha_1, ha_2⟩ := (HA.out.ext (xw1.trans (xw2.trans (xw3.trans (xw4.trans z6))))).at3
  go_wp2_with fail
  refine (C5.out _ (hW0.out.trans (xw1.trans (xw2.trans (xw3.trans (xw4.trans z6)))))).mono ?_
  rintro _ w5 ⟨rfl, xw5⟩
  clear ha_0 ha_1 ha_2
  obtain ⟨ha_0, ha_1, ha_2⟩ := (HA.out.ext (xw1.trans (xw2.trans (xw3.trans (xw4.trans (z6.trans xw5)))))).at3
  obtain ⟨hu_0, hu_1, hu_2⟩ := (HU.out.ext xw5).at3
  go_wp2_with fail
  go_ret
  exact ⟨rfl, (hW0.out.trans (xw1.trans (xw2.trans (xw3.trans (xw4.trans (z6.trans xw5))))))⟩

/-- what Inverse answers of the second matrix -/
def Second (p : Int) (r' c' : Int) (u : Value) (ys : List Int) (w : World) : Prop :=
  (∃ g : Int, (g != 0) = true ∧ ∀ W, Ext w W → Calls Try.prog 30 #[.int .u64 p, matV r' c' u] W (RetN0 g W)) ∨
    ∃ (k : Nat) (vs : List Int), r' = k ∧ c' = k ∧ MatOk p k k ys ∧ IsInv p k ys vs ∧ (takeL p k k ys).U.length = k ∧ ∀ W, Ext w W → Calls Try.prog 30 #[.int .u64 p, matV r' c' u] W (RetN k k vs W)
theorem second (p r' c' : Int) (u : Value) (ys : List Int) (w : World) (h0 : 0 ≤ p) (h1 : p ≤ 18446744073709551615) (hf : Fld p) (hS : matB p r' c' ys = true) (hy : U64s ys) (hu : Ints .u64 w u ys) : Second p r' c' u ys w := by
  by_cases e : r' = c'
  · obtain ⟨k, k', e1, e2, ok⟩ := MatOk.of hy hS
    obtain rfl : k = k' := by omega
    subst e1; subst e2
    by_cases hr : (takeL p k k ys).U.length = k
    · obtain ⟨vs, hvs⟩ := IsInv.of ok hf hr
      exact .inr ⟨k, vs, rfl, rfl, ok, hvs, hr, fun W hW => svInverse_yes p k u ys vs W ok hf (hu.ext hW) hr hvs⟩
    · exact .inl ⟨6, by decide, fun W hW => retN0 (svInverse_no p k u ys W ok hf (hu.ext hW) hr)⟩
  · exact .inl ⟨1, by decide, fun W hW => retN0 (svInverse_arg p r' c' u ys W h0 h1 (hu.ext hW) hy (by rw [hS, decide_eq_false e]; rfl))⟩
/-- Same, of one matrix twice -/
theorem same_mat (r c : Int) (v v' : Value) (xs : List Int) (W : World) (hv : Ints .u64 W v xs) (hv' : Ints .u64 W v' xs) : Calls Try.prog 35 #[.agg #[.int .i64 r, .int .i64 c, v], .agg #[.int .i64 r, .int .i64 c, v']] W (Ret (.bool true) W) := by
  have h := rmSame r c r c v v' xs xs W hv hv'
  rwa [decide_eq_true ⟨rfl, rfl, rfl⟩] at h

set_option maxRecDepth 100000 in
set_option maxHeartbeats 4000000 in
theorem walk_inv (p : Int) (n : Nat) (r' c' : Int) (v u : Value) (xs ys : List Int) (w : World) (h0 : 0 ≤ p) (h1 : p ≤ 18446744073709551615) (hT : takenB p = true) (hxy : xs.length ≤ 64 ∧ ys.length ≤ 64) (hM : matB p n n xs = true) (hS : matB p r' c' ys = true) (hx : U64s xs) (hy : U64s ys) (hv : Ints .u64 w v xs) (hu : Ints .u64 w u ys) (hr : (takeL p n n xs).U.length = n) :
    Calls Try.prog 6 #[.int .u64 p, matV n n v, matV r' c' u] w (Ret (.bool true) w) := by
  have C1 := hid fun (W : World) => (hT ▸ prime_any p W h0 : Calls Try.prog 9 #[.int .u64 p] W fun e w' => e = .returned (.bool true) ∧ W = w')
  have C2 := hid fun (W : World) (hW : Ext w W) => (hM ▸ mxRight p n n v xs W h0 h1 (hv.ext hW) hx : Calls Try.prog 23 #[.int .u64 p, matV n n v] W (Ret (.bool true) W))
  have C3 := hid fun (W : World) (hW : Ext w W) => (hS ▸ mxRight p r' c' u ys W h0 h1 (hu.ext hW) hy : Calls Try.prog 23 #[.int .u64 p, matV r' c' u] W (Ret (.bool true) W))
  have okA : MatOk p n n xs := by
    obtain ⟨m', n', e1, e2, ok⟩ := MatOk.of hx hM
    obtain rfl : m' = n := by omega
    obtain rfl : n' = m' := by omega
    exact ok
  have hf := taken_fld hT
  have hp2 := rightB_true okA.hp
  obtain ⟨us, hI⟩ := IsInv.of okA hf hr
  have okU : MatOk p n n us := ⟨okA.hp, hI.rng, okA.hm, okA.hn, hI.len⟩
  have C4 := hid fun (W : World) (hW : Ext w W) => svInverse_yes p n v xs us W okA hf (hv.ext hW) hr hI
  obtain ⟨D, hD⟩ : ∃ D, detF n (atF n xs) % p = D := ⟨_, rfl⟩
  obtain ⟨E, hE⟩ : ∃ E, detF n (atF n us) % p = E := ⟨_, rfl⟩
  have hD0 : D ≠ 0 := by rw [← hD]; exact fun h => (det_rank hp2.1 hf okA.hx).1 h hr
  have hDr : 0 ≤ D ∧ D < p := by rw [← hD]; exact mod_range _ hp2.1
  have C5 := hid fun (W : World) (hW : Ext w W) => (show Calls Try.prog 31 #[.int .u64 p, matV n n v] W (Ret (.tuple #[.int .u64 D, .int .i64 0]) W) from by
    have h := cmDet p n n v xs W h0 h1 (hv.ext hW) hx fun _ => hf
    unfold detV detErr at h
    rwa [hM, decide_eq_true (rfl : (n : Int) = n), if_pos (by rfl), if_pos (by rfl), Int.toNat_natCast, hD] at h)
  have C6 := hid fun (W : World) => mxOne_yes n W okA.hm
  have C7 := hid fun (W : World) (z : Value) (hW : Ext w W) (hz : Ints .u64 W z us) => (hI.left okA hf hr ▸ mxMul_yes p n n n z v us xs W okU okA hz (hv.ext hW) : Calls Try.prog 33 #[.int .u64 p, matV n n z, matV n n v] W (RetN n n (oneL n) W))
  have C8 := hid fun (W : World) (z : Value) (hW : Ext w W) (hz : Ints .u64 W z us) => (hI.one ▸ mxMul_yes p n n n v z xs us W okA okU (hv.ext hW) hz : Calls Try.prog 33 #[.int .u64 p, matV n n v, matV n n z] W (RetN n n (oneL n) W))
  have C9 := hid fun (W : World) (z : Value) (hz : Ints .u64 W z us) => (show Calls Try.prog 31 #[.int .u64 p, matV n n z] W (Ret (.tuple #[.int .u64 E, .int .i64 0]) W) from by
    have h := cmDet p n n z us W h0 h1 hz okU.u64 fun _ => hf
    unfold detV detErr at h
    rwa [okU.b, decide_eq_true (rfl : (n : Int) = n), if_pos (by rfl), if_pos (by rfl), Int.toNat_natCast, hE] at h)
  have C10 := hid fun (W : World) => inv_as p D E W okA.hp hDr.1 hDr.2 (hf D (by omega) hDr.2) (by have := hI.det okA hf; rwa [hD, hE] at this)
  have S2 := hid (second p r' c' u ys w h0 h1 hf hS hy hu)
  have CM := hid fun (k : Nat) (vs : List Int) (ek : k = n) (oky : MatOk p k k ys) (hJ : IsInv p k ys vs) (hrk : (takeL p k k ys).U.length = k) => (show ∃ zs ws, (∀ W, Ext w W → Calls Try.prog 33 #[.int .u64 p, matV n n v, matV n n u] W (RetN n n zs W)) ∧ (∀ W z, Ints .u64 W z zs → Calls Try.prog 30 #[.int .u64 p, matV n n z] W (RetN n n ws W)) ∧ (∀ W z z', Ints .u64 W z vs → Ints .u64 W z' us → Calls Try.prog 33 #[.int .u64 p, matV n n z, matV n n z'] W (RetN n n ws W)) from by
    subst ek
    have okV : MatOk p k k vs := ⟨oky.hp, hJ.rng, oky.hm, oky.hn, hJ.len⟩
    have okZ : MatOk p k k (mulL p k k k xs ys) := ⟨okA.hp, mulL_rng hp2.1 _ _ _ _ _, okA.hm, oky.hn, mulL_len _ _ _ _ _⟩
    have hZ := IsInv.mul okA hI hJ
    have hd : detF k (atF k (mulL p k k k xs ys)) % p ≠ 0 := by
      rw [det_product hp2.1 hf okA.hx]
      exact mz_prod (hf.has hp2.1) (fun h => (det_rank hp2.1 hf okA.hx).1 (by rwa [Int.emod_emod] at h) hr) (fun h => (det_rank hp2.1 hf oky.hx).1 (by rwa [Int.emod_emod] at h) hrk)
    have hrz : (takeL p k k (mulL p k k k xs ys)).U.length = k := Classical.byContradiction fun h => hd ((det_rank hp2.1 hf okZ.hx).2 h)
    exact ⟨_, _, fun W hW => mxMul_yes p k k k v u xs ys W okA oky (hv.ext hW) (hu.ext hW), fun W z hz => svInverse_yes p k z _ _ W okZ hf hz hrz hZ, fun W z z' hz hz' => mxMul_yes p k k k z z' vs us W okV okU hz hz'⟩)
  have t6 : ((n : Int) != (n : Int)) = false := by simp
  have t7 : (D != 0) = true := by rw [bne_iff_ne]; exact hD0
  have t8 : (E != E) = false := by simp
  have hn := okA.hm
  have t4 : decide (64 < (ys.length : Int)) = false := decide_eq_false (by omega)
  have t5 : decide (64 < (xs.length : Int)) = false := decide_eq_false (by omega)
  have t4' : decide (64 < ys.length) = false := decide_eq_false (by omega)
  have t5' : decide (64 < xs.length) = false := decide_eq_false (by omega)
  have hxl := hxy.1; have hyl := hxy.2
  clear hT hM hS hx hy hxy hr okA okU hI hf hp2 hD hE hD0 hDr
  obtain ⟨a, cap, rfl, k1, k2, k3⟩ := hv
  obtain ⟨a', cap', rfl, k1', k2', k3'⟩ := hu
  clear k3 k3'
  have hb2 := hid (boxes2 w 25 25 #[.int .i64 n, .int .i64 n, .slice a xs.length cap] #[.int .i64 r', .int .i64 c', .slice a' ys.length cap'])
  have HA := hid hb2.out.1; have HB := hid hb2.out.2.1; have hW0 := hid hb2.out.2.2
  unfold RetN matV at C4 C6 C7 C8 CM
  unfold Second RetN matV at S2
  unfold matV at C2 C3 C5 C9
  unfold matV
  clear hb2
  go_enter Try.func6, Try.ntmps6
  go_wp2_with fail
  refine (awake08 _).mono ?_
  rintro _ w1 ⟨rfl, xw1⟩
  obtain ⟨ha_0, ha_1, ha_2⟩ := (HA.out.ext xw1).at3
  obtain ⟨hb_0, hb_1, hb_2⟩ := (HB.out.ext xw1).at3
  go_wp2_with fail
  refine (C1.out _).mono ?_
  rintro _ _ ⟨rfl, rfl⟩
  go_wp2_with fail
  refine (C2.out _ (hW0.out.trans xw1)).mono ?_
  rintro _ w2 ⟨rfl, xw2⟩
  clear ha_0 ha_1 ha_2 hb_0 hb_1 hb_2
  obtain ⟨ha_0, ha_1, ha_2⟩ := (HA.out.ext (xw1.trans xw2)).at3
  obtain ⟨hb_0, hb_1, hb_2⟩ := (HB.out.ext (xw1.trans xw2)).at3
  go_wp2_with fail
  refine (C3.out _ (hW0.out.trans (xw1.trans xw2))).mono ?_
  rintro _ w3 ⟨rfl, xw3⟩
  clear ha_0 ha_1 ha_2 hb_0 hb_1 hb_2 C1 C2 C3
  obtain ⟨ha_0, ha_1, ha_2⟩ := (HA.out.ext (xw1.trans (xw2.trans xw3))).at3
  go_wp2_with fail
  refine (C4.out _ (hW0.out.trans (xw1.trans (xw2.trans xw3)))).mono ?_
  rintro _ w4 ⟨vU, rfl, iU, xw4⟩
  clear ha_0 ha_1 ha_2
  have IU := hid iU
  obtain ⟨aU, kU, rfl, _, _, kk⟩ := iU
  clear kk
  have z6 := (Ext.refl w4).alloc (.cells #[.int .i64 n, .int .i64 n, .slice aU us.length kU] 25)
  have HU := hid (Blk.new w4 25 #[.int .i64 n, .int .i64 n, .slice aU us.length kU])
  obtain ⟨ha_0, ha_1, ha_2⟩ := (HA.out.ext (xw1.trans (xw2.trans (xw3.trans (xw4.trans z6))))).at3
  go_wp2_with fail
  refine (C5.out _ (hW0.out.trans (xw1.trans (xw2.trans (xw3.trans (xw4.trans z6)))))).mono ?_
  rintro _ w5 ⟨rfl, xw5⟩
  clear ha_0 ha_1 ha_2
  obtain ⟨ha_0, ha_1, ha_2⟩ := (HA.out.ext (xw1.trans (xw2.trans (xw3.trans (xw4.trans (z6.trans xw5)))))).at3
  obtain ⟨hu_0, hu_1, hu_2⟩ := (HU.out.ext xw5).at3
  go_wp2_with fail
  refine (C6.out _).mono ?_
  rintro _ w6 ⟨vO, rfl, iO, xw6⟩
  clear ha_0 ha_1 ha_2 hu_0 hu_1 hu_2
  clear C4 C5 C6
  have IO := hid iO
  obtain ⟨aO, kO, rfl, _, _, kk⟩ := iO
  clear kk
  have z9 := (Ext.refl w6).alloc (.cells #[.int .i64 n, .int .i64 n, .slice aO (oneL n).length kO] 25)
  have HO := hid (Blk.new w6 25 #[.int .i64 n, .int .i64 n, .slice aO (oneL n).length kO])
  obtain ⟨ha_0, ha_1, ha_2⟩ := (HA.out.ext (xw1.trans (xw2.trans (xw3.trans (xw4.trans (z6.trans (xw5.trans (xw6.trans z9)))))))).at3
  obtain ⟨hu_0, hu_1, hu_2⟩ := (HU.out.ext (xw5.trans (xw6.trans z9))).at3
  go_wp2_with fail
  refine (C7.out _ _ (hW0.out.trans (xw1.trans (xw2.trans (xw3.trans (xw4.trans (z6.trans (xw5.trans (xw6.trans z9)))))))) (IU.out.ext (z6.trans (xw5.trans (xw6.trans z9))))).mono ?_
  rintro _ w7 ⟨vL, rfl, iL, xw7⟩
  clear ha_0 ha_1 ha_2 hu_0 hu_1 hu_2
  have IL := hid iL
  obtain ⟨aL, kL, rfl, _, _, kk⟩ := iL
  clear kk
  have z11 := (Ext.refl w7).alloc (.cells #[.int .i64 n, .int .i64 n, .slice aL (oneL n).length kL] 25)
  have HL := hid (Blk.new w7 25 #[.int .i64 n, .int .i64 n, .slice aL (oneL n).length kL])
  obtain ⟨ha_0, ha_1, ha_2⟩ := (HA.out.ext (xw1.trans (xw2.trans (xw3.trans (xw4.trans (z6.trans (xw5.trans (xw6.trans (z9.trans (xw7.trans z11)))))))))).at3
  obtain ⟨hu_0, hu_1, hu_2⟩ := (HU.out.ext (xw5.trans (xw6.trans (z9.trans (xw7.trans z11))))).at3
  go_wp2_with fail
  refine (C8.out _ _ (hW0.out.trans (xw1.trans (xw2.trans (xw3.trans (xw4.trans (z6.trans (xw5.trans (xw6.trans (z9.trans (xw7.trans z11)))))))))) (IU.out.ext (z6.trans (xw5.trans (xw6.trans (z9.trans (xw7.trans z11))))))).mono ?_
  rintro _ w8 ⟨vR, rfl, iR, xw8⟩
  clear ha_0 ha_1 ha_2 hu_0 hu_1 hu_2
  clear C7 C8
  have IR := hid iR
  obtain ⟨aR, kR, rfl, _, _, kk⟩ := iR
  clear kk
  have z13 := (Ext.refl w8).alloc (.cells #[.int .i64 n, .int .i64 n, .slice aR (oneL n).length kR] 25)
  have HR := hid (Blk.new w8 25 #[.int .i64 n, .int .i64 n, .slice aR (oneL n).length kR])
  obtain ⟨hu_0, hu_1, hu_2⟩ := (HU.out.ext (xw5.trans (xw6.trans (z9.trans (xw7.trans (z11.trans (xw8.trans z13))))))).at3
  go_wp2_with fail
  refine (C9.out _ _ (IU.out.ext (z6.trans (xw5.trans (xw6.trans (z9.trans (xw7.trans (z11.trans (xw8.trans z13))))))))).mono ?_
  rintro _ w9 ⟨rfl, xw9⟩
  clear hu_0 hu_1 hu_2
  go_wp2_with fail
  refine (C10.out _).mono ?_
  rintro _ w10 ⟨rfl, xw10⟩
  obtain ⟨ho_0, ho_1, ho_2⟩ := (HO.out.ext (xw7.trans (z11.trans (xw8.trans (z13.trans (xw9.trans xw10)))))).at3
  obtain ⟨hl_0, hl_1, hl_2⟩ := (HL.out.ext (xw8.trans (z13.trans (xw9.trans xw10)))).at3
  go_wp2_with fail
  refine (same_mat _ _ _ _ _ _ (IL.out.ext (z11.trans (xw8.trans (z13.trans (xw9.trans xw10))))) (IO.out.ext (z9.trans (xw7.trans (z11.trans (xw8.trans (z13.trans (xw9.trans xw10)))))))).mono ?_
  rintro _ w11 ⟨rfl, xw11⟩
  clear ho_0 ho_1 ho_2 hl_0 hl_1 hl_2
  obtain ⟨ho_0, ho_1, ho_2⟩ := (HO.out.ext (xw7.trans (z11.trans (xw8.trans (z13.trans (xw9.trans (xw10.trans xw11))))))).at3
  obtain ⟨hr_0, hr_1, hr_2⟩ := (HR.out.ext (xw9.trans (xw10.trans xw11))).at3
  go_wp2_with fail
  refine (same_mat _ _ _ _ _ _ (IR.out.ext (z13.trans (xw9.trans (xw10.trans xw11)))) (IO.out.ext (z9.trans (xw7.trans (z11.trans (xw8.trans (z13.trans (xw9.trans (xw10.trans xw11))))))))).mono ?_
  rintro _ w12 ⟨rfl, xw12⟩
  clear ho_0 ho_1 ho_2 hr_0 hr_1 hr_2
  clear C9 C10 HL HR HO IL IR IO
  obtain ⟨g, hg, K1⟩ | ⟨k, vs, er, ec, oky, hJ, hrk, K1⟩ := S2.out
  ·
    have K2 := hid K1
    clear K1 S2 CM
    obtain ⟨hb_0, hb_1, hb_2⟩ := (HB.out.ext (xw1.trans (xw2.trans (xw3.trans (xw4.trans (z6.trans (xw5.trans (xw6.trans (z9.trans (xw7.trans (z11.trans (xw8.trans (z13.trans (xw9.trans (xw10.trans (xw11.trans xw12)))))))))))))))).at3
    go_wp2_with fail
    refine (K2.out _ (hW0.out.trans (xw1.trans (xw2.trans (xw3.trans (xw4.trans (z6.trans (xw5.trans (xw6.trans (z9.trans (xw7.trans (z11.trans (xw8.trans (z13.trans (xw9.trans (xw10.trans (xw11.trans xw12))))))))))))))))).mono ?_
    rintro _ w13 ⟨aV, kV, rfl, xw13⟩
    clear hb_0 hb_1 hb_2
    have z19 := (Ext.refl w13).alloc (.cells #[.int .i64 0, .int .i64 0, .slice aV 0 kV] 25)
    have HV := hid (Blk.new w13 25 #[.int .i64 0, .int .i64 0, .slice aV 0 kV])
    obtain ⟨ha_0, ha_1, ha_2⟩ := (HA.out.ext (xw1.trans (xw2.trans (xw3.trans (xw4.trans (z6.trans (xw5.trans (xw6.trans (z9.trans (xw7.trans (z11.trans (xw8.trans (z13.trans (xw9.trans (xw10.trans (xw11.trans (xw12.trans (xw13.trans z19)))))))))))))))))).at3
    obtain ⟨hb_0, hb_1, hb_2⟩ := (HB.out.ext (xw1.trans (xw2.trans (xw3.trans (xw4.trans (z6.trans (xw5.trans (xw6.trans (z9.trans (xw7.trans (z11.trans (xw8.trans (z13.trans (xw9.trans (xw10.trans (xw11.trans (xw12.trans (xw13.trans z19)))))))))))))))))).at3
    go_wp2_with fail
    go_ret
    exact ⟨rfl, (hW0.out.trans (xw1.trans (xw2.trans (xw3.trans (xw4.trans (z6.trans (xw5.trans (xw6.trans (z9.trans (xw7.trans (z11.trans (xw8.trans (z13.trans (xw9.trans (xw10.trans (xw11.trans (xw12.trans (xw13.trans z19))))))))))))))))))⟩
  ·
    subst er; subst ec
    have K2 := hid K1
    have HM := hid fun ek => CM.out k vs ek oky hJ hrk
    clear K1 S2 CM oky hJ hrk
    obtain ⟨hb_0, hb_1, hb_2⟩ := (HB.out.ext (xw1.trans (xw2.trans (xw3.trans (xw4.trans (z6.trans (xw5.trans (xw6.trans (z9.trans (xw7.trans (z11.trans (xw8.trans (z13.trans (xw9.trans (xw10.trans (xw11.trans xw12)))))))))))))))).at3
    go_wp2_with fail
    refine (K2.out _ (hW0.out.trans (xw1.trans (xw2.trans (xw3.trans (xw4.trans (z6.trans (xw5.trans (xw6.trans (z9.trans (xw7.trans (z11.trans (xw8.trans (z13.trans (xw9.trans (xw10.trans (xw11.trans xw12))))))))))))))))).mono ?_
    rintro _ w13 ⟨vV, rfl, iV, xw13⟩
    clear hb_0 hb_1 hb_2
    have IV := hid iV
    obtain ⟨aV, kV, rfl, _, _, kk⟩ := iV
    clear kk
    have z19 := (Ext.refl w13).alloc (.cells #[.int .i64 k, .int .i64 k, .slice aV vs.length kV] 25)
    have HV := hid (Blk.new w13 25 #[.int .i64 k, .int .i64 k, .slice aV vs.length kV])
    clear K2
    by_cases e : k = n
    ·
      obtain ⟨zs, ws, D1, D2, D3⟩ := HM.out e
      subst e
      have K1 := hid D1; have K2 := hid D2; have K3 := hid D3
      clear D1 D2 D3 HM
      obtain ⟨ha_0, ha_1, ha_2⟩ := (HA.out.ext (xw1.trans (xw2.trans (xw3.trans (xw4.trans (z6.trans (xw5.trans (xw6.trans (z9.trans (xw7.trans (z11.trans (xw8.trans (z13.trans (xw9.trans (xw10.trans (xw11.trans (xw12.trans (xw13.trans z19)))))))))))))))))).at3
      obtain ⟨hb_0, hb_1, hb_2⟩ := (HB.out.ext (xw1.trans (xw2.trans (xw3.trans (xw4.trans (z6.trans (xw5.trans (xw6.trans (z9.trans (xw7.trans (z11.trans (xw8.trans (z13.trans (xw9.trans (xw10.trans (xw11.trans (xw12.trans (xw13.trans z19)))))))))))))))))).at3
      go_wp2_with fail
      refine (K1.out _ (hW0.out.trans (xw1.trans (xw2.trans (xw3.trans (xw4.trans (z6.trans (xw5.trans (xw6.trans (z9.trans (xw7.trans (z11.trans (xw8.trans (z13.trans (xw9.trans (xw10.trans (xw11.trans (xw12.trans (xw13.trans z19))))))))))))))))))).mono ?_
      rintro _ w14 ⟨vZ, rfl, iZ, xw14⟩
      clear ha_0 ha_1 ha_2 hb_0 hb_1 hb_2
      have IZ := hid iZ
      obtain ⟨aZ, kZ, rfl, _, _, kk⟩ := iZ
      clear kk
      have z21 := (Ext.refl w14).alloc (.cells #[.int .i64 k, .int .i64 k, .slice aZ zs.length kZ] 25)
      have HZ := hid (Blk.new w14 25 #[.int .i64 k, .int .i64 k, .slice aZ zs.length kZ])
      obtain ⟨hz_0, hz_1, hz_2⟩ := HZ.out.at3
      go_wp2_with fail
      refine (K2.out _ _ (IZ.out.ext z21)).mono ?_
      rintro _ w15 ⟨vW, rfl, iW, xw15⟩
      clear hz_0 hz_1 hz_2
      have IW := hid iW
      obtain ⟨aW, kW, rfl, _, _, kk⟩ := iW
      clear kk
      have z23 := (Ext.refl w15).alloc (.cells #[.int .i64 k, .int .i64 k, .slice aW ws.length kW] 25)
      have HW := hid (Blk.new w15 25 #[.int .i64 k, .int .i64 k, .slice aW ws.length kW])
      obtain ⟨hv_0, hv_1, hv_2⟩ := (HV.out.ext (xw14.trans (z21.trans (xw15.trans z23)))).at3
      obtain ⟨hu_0, hu_1, hu_2⟩ := (HU.out.ext (xw5.trans (xw6.trans (z9.trans (xw7.trans (z11.trans (xw8.trans (z13.trans (xw9.trans (xw10.trans (xw11.trans (xw12.trans (xw13.trans (z19.trans (xw14.trans (z21.trans (xw15.trans z23))))))))))))))))).at3
      go_wp2_with fail
      refine (K3.out _ _ _ (IV.out.ext (z19.trans (xw14.trans (z21.trans (xw15.trans z23))))) (IU.out.ext (z6.trans (xw5.trans (xw6.trans (z9.trans (xw7.trans (z11.trans (xw8.trans (z13.trans (xw9.trans (xw10.trans (xw11.trans (xw12.trans (xw13.trans (z19.trans (xw14.trans (z21.trans (xw15.trans z23))))))))))))))))))).mono ?_
      rintro _ w16 ⟨vX, rfl, iX, xw16⟩
      clear hv_0 hv_1 hv_2 hu_0 hu_1 hu_2
      have IX := hid iX
      obtain ⟨aX, kX, rfl, _, _, kk⟩ := iX
      clear kk
      have z25 := (Ext.refl w16).alloc (.cells #[.int .i64 k, .int .i64 k, .slice aX ws.length kX] 25)
      have HX := hid (Blk.new w16 25 #[.int .i64 k, .int .i64 k, .slice aX ws.length kX])
      obtain ⟨hw_0, hw_1, hw_2⟩ := (HW.out.ext (xw16.trans z25)).at3
      obtain ⟨hx_0, hx_1, hx_2⟩ := HX.out.at3
      go_wp2_with fail
      refine (same_mat _ _ _ _ _ _ (IW.out.ext (z23.trans (xw16.trans z25))) (IX.out.ext z25)).mono ?_
      rintro _ w17 ⟨rfl, xw17⟩
      clear hw_0 hw_1 hw_2 hx_0 hx_1 hx_2
      go_wp2_with fail
      go_ret
      exact ⟨rfl, (hW0.out.trans (xw1.trans (xw2.trans (xw3.trans (xw4.trans (z6.trans (xw5.trans (xw6.trans (z9.trans (xw7.trans (z11.trans (xw8.trans (z13.trans (xw9.trans (xw10.trans (xw11.trans (xw12.trans (xw13.trans (z19.trans (xw14.trans (z21.trans (xw15.trans (z23.trans (xw16.trans (z25.trans xw17)))))))))))))))))))))))))⟩
    ·
      have t9 : ((k : Int) != (n : Int)) = true := by rw [bne_iff_ne]; omega
      clear HM e
      obtain ⟨ha_0, ha_1, ha_2⟩ := (HA.out.ext (xw1.trans (xw2.trans (xw3.trans (xw4.trans (z6.trans (xw5.trans (xw6.trans (z9.trans (xw7.trans (z11.trans (xw8.trans (z13.trans (xw9.trans (xw10.trans (xw11.trans (xw12.trans (xw13.trans z19)))))))))))))))))).at3
      obtain ⟨hb_0, hb_1, hb_2⟩ := (HB.out.ext (xw1.trans (xw2.trans (xw3.trans (xw4.trans (z6.trans (xw5.trans (xw6.trans (z9.trans (xw7.trans (z11.trans (xw8.trans (z13.trans (xw9.trans (xw10.trans (xw11.trans (xw12.trans (xw13.trans z19)))))))))))))))))).at3
      go_wp2_with fail
      go_ret
      exact ⟨rfl, (hW0.out.trans (xw1.trans (xw2.trans (xw3.trans (xw4.trans (z6.trans (xw5.trans (xw6.trans (z9.trans (xw7.trans (z11.trans (xw8.trans (z13.trans (xw9.trans (xw10.trans (xw11.trans (xw12.trans (xw13.trans z19))))))))))))))))))⟩

/-- the law answers true -/
theorem walk (p r c : Int) (v : Value) (xs : List Int) (r' c' : Int) (u : Value) (ys : List Int) (w : World) (hp : (Lit.int .u64 p).wf = true) (_ : (Lit.int .i64 r).wf = true) (_ : (Lit.int .i64 c).wf = true) (hv : Ints .u64 w v xs) (hx : ∀ x ∈ xs, (Lit.int .u64 x).wf = true) (_ : (Lit.int .i64 r').wf = true) (_ : (Lit.int .i64 c').wf = true) (hu : Ints .u64 w u ys) (hy : ∀ x ∈ ys, (Lit.int .u64 x).wf = true) :
    Calls Try.prog 6 #[.int .u64 p, .agg #[.int .i64 r, .int .i64 c, v], .agg #[.int .i64 r', .int .i64 c', u]] w (Ret (.bool true) w) := by
  have hx' : U64s xs := fun x h => u64_wf (hx x h)
  have hy' : U64s ys := fun x h => u64_wf (hy x h)
  cases h : goB p r c r' c' xs ys with
  | false => exact walk_skip p r c r' c' v u xs ys w (u64_wf hp).1 (u64_wf hp).2 hv hx' hu hy' h
  | true =>
    unfold goB at h
    simp only [Bool.and_eq_true, decide_eq_true_eq] at h
    obtain ⟨h1, h2, h3, h4, h5⟩ := h
    by_cases e : r = c
    · obtain ⟨n, n', e1, e2, _⟩ := MatOk.of hx' h4
      obtain rfl : n = n' := by omega
      subst e1; subst e2
      by_cases hr : (takeL p n n xs).U.length = n
      · exact walk_inv p n r' c' v u xs ys w (u64_wf hp).1 (u64_wf hp).2 h3 ⟨h1, h2⟩ h4 h5 hx' hy' hv hu hr
      · exact walk_sing p n r' c' v u xs ys w (u64_wf hp).1 (u64_wf hp).2 h3 ⟨h1, h2⟩ h4 h5 hx' hy' hv hu hr
    · exact walk_flat p r c r' c' v u xs ys w (u64_wf hp).1 (u64_wf hp).2 h3 ⟨h1, h2⟩ h4 h5 hx' hy' hv hu e

theorem own : ownKnob Try.prog.godebug = none := by kernel_rfl
set_option maxRecDepth 100000 in
theorem lifted (os : Os) (started : os.Started) (H : Type) (enc : TypeId × Value → H) :
    ReturnsInHanded {} Try.checked os 6 .any (Rows.solveInverseSpec.pre6 enc Try.prog Try.f6 Rows.solveInverseRow.domain false) (Rows.solveInverseSpec.post enc Try.prog Try.f6 false true false false) := by
  refine returnsInHanded_of_change (C := Try.checked) own started (by kernel_rfl) Try.func6
    (ChangeSpec.witness6 (enc := enc) (C := Try.checked) false ⟨#[], #[.int .u64 0, .agg #[.int .i64 0, .int .i64 0, .slice none 0 0], .agg #[.int .i64 0, .int .i64 0, .slice none 0 0]], []⟩ 8 (by kernel_rfl) (by kernel_rfl) (by kernel_rfl) (by kernel_rfl)) ?_
  intro W base args ds gs before hval0 hW _ _
  have hval : ∀ (j : Nat) t v, Try.f6.params[j]? = some t → args[j]? = some v → Value.okWide Try.prog W .any base t v := hval0
  have hW' := hW
  obtain ⟨p, q, hA0, hV, rfl, _, _⟩ := hW
  have hA : DataW.TrodAll enc Try.prog W 0 (fun _ => true) true Try.f6.params.toList args.toList ds p := hA0
  rw [Try.params6] at hA hval
  obtain ⟨v0, vs0, d0, ds0, p0, q0, hargs, rfl, rfl, h0, r0⟩ := trodAll_cons hA
  obtain ⟨v1, vs1, d1, ds1, p1, q1, rfl, rfl, rfl, h1, r1⟩ := trodAll_cons r0
  obtain ⟨v2, vs2, d2, ds2, p2, q2, rfl, rfl, rfl, h2, r2⟩ := trodAll_cons r1
  obtain ⟨rfl, rfl, rfl⟩ := trodAll_nil r2
  obtain rfl : args = #[v0, v1, v2] := by cases args; simp_all
  obtain ⟨rfl, rfl⟩ := trodVars_none hV
  obtain ⟨a0, rfl, rfl, rfl, w0⟩ := open_int Try.underlying22 (hval 0 22 v0 rfl rfl) h0
  obtain ⟨mr1, mc1, mu1, xs1, rfl, wr1, wc1, i1, w1⟩ := open_Mat (hval 1 25 v1 rfl rfl) h1
  obtain ⟨mr2, mc2, mu2, xs2, rfl, wr2, wc2, i2, w2⟩ := open_Mat (hval 2 25 v2 rfl rfl) h2
  refine (walk a0 mr1 mc1 mu1 xs1 mr2 mc2 mu2 xs2 W w0 wr1 wc1 i1 w1 wr2 wc2 i2 w2).mono fun e W' ⟨he, hg⟩ => ⟨_, he, ?_⟩
  exact law_post (by kernel_rfl) (by kernel_rfl) rfl Try.underlying4 rfl rfl hW' hg

/-- the statement -/
theorem proved : Rows.SolveInverseSaid :=
  OpenClaim.holds_of_wide 6 Try.f6 rfl rfl rfl rfl rfl rfl rfl ⟨rfl, rfl, rfl, rfl, rfl⟩ rfl rfl rfl rfl rfl (by kernel_rfl) Try.func6 (by kernel_rfl)
    (of_decide_eq_true (by kernel_rfl)) (by unfold Func.isWrapper; first | (rw [if_pos (by decide +kernel)]; kernel_rfl) | (rw [if_neg (by decide +kernel)]; exact ⟨rfl, rfl⟩))
    (fun os started H enc _ => lifted os started H enc)
end Go.Proofs.Ytjdbkbbhjiemdaa.solveInverse
