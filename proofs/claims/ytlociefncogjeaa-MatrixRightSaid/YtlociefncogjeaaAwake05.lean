/- The first look of layer 5's laws: it answers true. -/
import Derived.Test.YtlociefncogjeaaMxE
import Derived.Test.YtlociefncogjeaaMx7
import Derived.Test.YtlociefncogjeaaMx5
import Derived.Test.YtlociefncogjeaaMxD
namespace Go.Proofs.Ytlociefncogjeaa
open Go.RowKit Go.Maps

def aL : List Int := [1, 2, 3, 4]
theorem ok22 : MatOk 7 2 2 aL := ⟨by decide, by unfold Rng; decide, by decide, by decide, rfl⟩
theorem aTimes (v u : Value) (w : World) (hv : Ints .u64 w v aL) (hu : Ints .u64 w u [1, 1]) : Calls Try.prog 12 #[.int .u64 7, .agg #[.int .i64 2, .int .i64 2, v], u] w (RetV [3, 0] w) := by
  have h := mxTimes_yes 7 2 2 v u aL [1, 1] w ok22 hv hu (by unfold Rng; decide) rfl
  rw [show timesL 7 2 2 aL [1, 1] = [3, 0] by decide +kernel] at h
  exact h
theorem aLeft (v u : Value) (w : World) (hv : Ints .u64 w v aL) (hu : Ints .u64 w u [1, 1]) : Calls Try.prog 13 #[.int .u64 7, u, .agg #[.int .i64 2, .int .i64 2, v]] w (RetV [4, 6] w) := by
  have h := mxLeft_yes 7 2 2 v u aL [1, 1] w ok22 hv hu (by unfold Rng; decide) rfl
  rw [show leftL 7 2 2 aL [1, 1] = [4, 6] by decide +kernel] at h
  exact h
theorem aThin (v : Value) (w : World) (hv : Ints .u64 w v aL) : Calls Try.prog 16 #[.int .u64 7, .agg #[.int .i64 2, .int .i64 2, v]] w (RetSp 2 2 [0, 2, 4] [0, 1, 0, 1] aL w) := by
  have h := mxThin_yes 7 2 2 v aL w ok22 hv
  rw [show thB aL 2 2 = [0, 2, 4] by decide +kernel, show thC aL 2 (2 * 2) = [0, 1, 0, 1] by decide +kernel, show thV aL (2 * 2) = aL by decide +kernel] at h
  exact h
theorem aOne (w : World) : Calls Try.prog 30 #[.int .i64 2] w (RetN 2 2 [1, 0, 0, 1] w) := by
  have h := mxOne_yes 2 w (by decide)
  rw [show oneL 2 = [1, 0, 0, 1] by decide +kernel] at h
  exact h
theorem aMul (v u : Value) (w : World) (hv : Ints .u64 w v aL) (hu : Ints .u64 w u [1, 0, 0, 1]) : Calls Try.prog 14 #[.int .u64 7, .agg #[.int .i64 2, .int .i64 2, v], .agg #[.int .i64 2, .int .i64 2, u]] w (RetN 2 2 aL w) := by
  have h := mxMul_yes 7 2 2 2 v u aL [1, 0, 0, 1] w ok22 ⟨by decide, by unfold Rng; decide, by decide, by decide, rfl⟩ hv hu
  rw [show mulL 7 2 2 2 aL [1, 0, 0, 1] = aL by decide +kernel] at h
  exact h
theorem aSpOk : SpOk 7 2 2 [0, 2, 4] [0, 1, 0, 1] aL := by
  have h := thin_ok (p := 7) (m := 2) (n := 2) (xs := aL) (by decide) (by decide) rfl (by decide)
  rwa [show thB aL 2 2 = [0, 2, 4] by decide +kernel, show thC aL 2 (2 * 2) = [0, 1, 0, 1] by decide +kernel, show thV aL (2 * 2) = aL by decide +kernel] at h
theorem aSparse (vb vc vv : Value) (w : World) (hb : Ints .i64 w vb [0, 2, 4]) (hc : Ints .i64 w vc [0, 1, 0, 1]) (hv : Ints .u64 w vv aL) :
    Calls Try.prog 18 #[.int .u64 7, .agg #[.int .i64 2, .int .i64 2, vb, vc, vv]] w (Ret (.bool true) w) :=
  mxSparse_yes 7 2 2 vb vc vv _ _ _ w aSpOk hb hc hv (by unfold U64s; decide)
theorem aRight (v : Value) (w : World) (hv : Ints .u64 w v aL) : Calls Try.prog 17 #[.int .u64 7, .agg #[.int .i64 2, .int .i64 2, v]] w (Ret (.bool true) w) := by
  have h := mxRight 7 2 2 v aL w (by decide) (by decide) hv (by unfold U64s; decide)
  rw [show matB 7 2 2 aL = true by decide +kernel] at h
  exact h
theorem aSame (v u : Value) (w : World) (hv : Ints .u64 w v aL) (hu : Ints .u64 w u aL) : Calls Try.prog 23 #[.agg #[.int .i64 2, .int .i64 2, v], .agg #[.int .i64 2, .int .i64 2, u]] w (Ret (.bool true) w) := by
  have h := rmSame 2 2 2 2 v u aL aL w hv hu
  rw [show decide ((2 : Int) = 2 ∧ (2 : Int) = 2 ∧ aL = aL) = true by decide] at h
  exact h
/-- a literal's numbers, and the box around them -/
theorem lit_box (w : World) (cs : List Int) (t : TypeId) (o : Obj) (h : cs.length ≤ 9223372036854775807) : Ints .u64 ((w.alloc (.cells (cs.map (Value.int .u64)).toArray t)).alloc o) (.slice (some ⟨w.heap.size, 0, none⟩) cs.length cs.length) cs :=
  (Ints.lit cs h rfl).alloc _

set_option maxRecDepth 100000 in
set_option maxHeartbeats 2000000 in
theorem awake05 (w : World) : Calls Try.prog 8 #[] w (Ret (.bool true) w) := by
  have hM : Hid (Ints .u64 ((w.alloc (.cells #[.int .u64 1, .int .u64 2, .int .u64 3, .int .u64 4] 22)).alloc (.cells #[.int .i64 2, .int .i64 2, .slice (some ⟨w.heap.size, 0, none⟩) 4 4] 25)) (.slice (some ⟨w.heap.size, 0, none⟩) 4 4) aL) := lit_box w aL 22 _ (by decide)
  have hB := hid (Blk.at_ (w := w.alloc (.cells #[.int .u64 1, .int .u64 2, .int .u64 3, .int .u64 4] 22)) (t := 25) (cs := #[.int .i64 2, .int .i64 2, .slice (some ⟨w.heap.size, 0, none⟩) 4 4]) (g := w.heap.size + 1) (by rw [alloc_size]))
  have hE := hid (show Ext w ((w.alloc (.cells #[.int .u64 1, .int .u64 2, .int .u64 3, .int .u64 4] 22)).alloc (.cells #[.int .i64 2, .int .i64 2, .slice (some ⟨w.heap.size, 0, none⟩) 4 4] 25)) from ((Ext.refl w).alloc _).alloc _)
  go_enter Try.func8, Try.ntmps8
  go_wp2_with fail
  have e2 : w.heap.size + 1 + 1 = ((w.alloc (.cells #[.int .u64 1, .int .u64 2, .int .u64 3, .int .u64 4] 22)).alloc (.cells #[.int .i64 2, .int .i64 2, .slice (some ⟨w.heap.size, 0, none⟩) 4 4] 25)).heap.size := by rw [alloc_size, alloc_size]
  rw [e2]
  obtain ⟨W, hW⟩ : ∃ W, (w.alloc (.cells #[.int .u64 1, .int .u64 2, .int .u64 3, .int .u64 4] 22)).alloc (.cells #[.int .i64 2, .int .i64 2, .slice (some ⟨w.heap.size, 0, none⟩) 4 4] 25) = W := ⟨_, rfl⟩
  rw [hW] at hM hB hE e2 ⊢
  obtain ⟨g1, hg1⟩ : ∃ g, w.heap.size + 1 = g := ⟨_, rfl⟩
  obtain ⟨g0, hg0⟩ : ∃ g, w.heap.size = g := ⟨_, rfl⟩
  rw [hg1] at hB ⊢
  rw [hg0] at hM hB ⊢
  clear hW hg1 hg0 e2
  have cb := hid fun (V : World) (h : Ext W V) => (hB.out.ext h).at3
  refine (aTimes _ _ _ (hM.out.alloc _) (Ints.at2 rfl)).mono ?_
  rintro _ w1 ⟨v1, rfl, i1, x1⟩
  have I1 := hid i1
  have y1 : Ext W w1 := Ext.trans ((Ext.refl W).alloc _) x1
  obtain ⟨b0, b1, b2⟩ := cb.out _ (y1.alloc (.cells #[.int .u64 1, .int .u64 1] 22))
  clear i1 x1
  go_wp2_with fail
  refine (aLeft _ _ _ (hM.out.ext (y1.alloc _)) (Ints.at2 rfl)).mono ?_
  rintro _ w2 ⟨v2, rfl, i2, x2⟩
  have I2 := hid i2
  have z2 : Ext w1 w2 := Ext.trans ((Ext.refl w1).alloc _) x2
  have y2 : Ext W w2 := y1.trans z2
  clear i2 x2 b0 b1 b2
  obtain ⟨b0, b1, b2⟩ := cb.out _ y2
  go_wp2_with fail
  refine (aThin _ _ (hM.out.ext y2)).mono ?_
  rintro _ w3 ⟨vb, vc, vv, rfl, ib, ic, iv, x3⟩
  have Ib := hid ib; have Ic := hid ic; have Iv := hid iv
  obtain ⟨ab, cb', rfl, _, _, k3⟩ := ib
  obtain ⟨ac, cc, rfl, _, _, k4⟩ := ic
  obtain ⟨av, cv, rfl, _, _, k5⟩ := iv
  have y3 : Ext W w3 := y2.trans x3
  clear k3 k4 k5 b0 b1 b2
  rw [show aL.length = 4 from rfl] at Iv ⊢
  unfold spV
  have HS := hid (Blk.new w3 28 #[.int .i64 2, .int .i64 2, .slice ab 3 cb', .slice ac 4 cc, .slice av 4 cv])
  have z3 := (Ext.refl w3).alloc (.cells #[.int .i64 2, .int .i64 2, .slice ab 3 cb', .slice ac 4 cc, .slice av 4 cv] 28)
  go_wp2_with fail
  refine (aOne _).mono ?_
  rintro _ w4 ⟨u4, rfl, i4, x4⟩
  have I4 := hid i4
  obtain ⟨a4, c4, rfl, _, _, k4⟩ := i4
  have y4 : Ext W w4 := y3.trans (z3.trans x4)
  obtain ⟨b0, b1, b2⟩ := cb.out _ (y4.alloc (.cells #[.int .i64 2, .int .i64 2, .slice a4 4 c4] 25))
  clear k4
  unfold matV
  go_wp2_with fail
  refine (aMul _ _ _ (hM.out.ext (y4.alloc _)) (I4.out.alloc _)).mono ?_
  rintro _ w5 ⟨u5, rfl, i5, x5⟩
  have I5 := hid i5
  obtain ⟨a5, c5, rfl, _, _, k5⟩ := i5
  rw [show aL.length = 4 from rfl] at I5 ⊢
  have z5 : Ext w4 w5 := Ext.trans ((Ext.refl w4).alloc _) x5
  have y5 : Ext W w5 := y4.trans z5
  clear k5 b0 b1 b2
  unfold matV
  have cs5 := hid fun (V : World) (h : Ext w5 V) => (HS.out.ext (x4.trans (z5.trans h))).at5
  have HQ := hid (Blk.new w5 25 #[.int .i64 2, .int .i64 2, .slice a5 4 c5])
  have zq := (Ext.refl w5).alloc (.cells #[.int .i64 2, .int .i64 2, .slice a5 4 c5] 25)
  have cq := hid fun (V : World) (h : Ext (w5.alloc (.cells #[.int .i64 2, .int .i64 2, .slice a5 4 c5] 25)) V) => (HQ.out.ext h).at3
  go_wp2_with fail
  refine (same_yes _ _ [3, 0] _ (I1.out.ext (((z2.trans x3).trans (z3.trans (x4.trans (z5.trans zq)))).alloc _)) (Ints.at2 (by simp))).mono ?_
  rintro _ w6 ⟨rfl, x6⟩
  have y6 := Ext.trans ((Ext.refl (w5.alloc (.cells #[.int .i64 2, .int .i64 2, .slice a5 4 c5] 25))).alloc (.cells #[.int .u64 3, .int .u64 0] 22)) x6
  go_wp2_with fail
  refine (same_yes _ _ [4, 6] _ (I2.out.ext ((x3.trans (z3.trans (x4.trans (z5.trans (zq.trans y6))))).alloc _)) (Ints.at2 rfl)).mono ?_
  rintro _ w7 ⟨rfl, x7⟩
  have y7 := y6.trans (Ext.trans ((Ext.refl w6).alloc _) x7)
  obtain ⟨b0, b1, b2⟩ := cb.out _ (y5.trans (zq.trans y7))
  obtain ⟨q0, q1, q2⟩ := cq.out _ y7
  obtain ⟨s0, s1, s2, s3, s4⟩ := cs5.out _ (zq.trans y7)
  go_wp2_with fail
  refine (aSame _ _ _ (I5.out.ext (zq.trans y7)) (hM.out.ext (y5.trans (zq.trans y7)))).mono ?_
  rintro _ w8 ⟨rfl, x8⟩
  clear b0 b1 b2 q0 q1 q2 s0 s1 s2 s3 s4
  obtain ⟨b0, b1, b2⟩ := cb.out _ (y5.trans (zq.trans (y7.trans x8)))
  go_wp2_with fail
  refine (aRight _ _ (hM.out.ext (y5.trans (zq.trans (y7.trans x8))))).mono ?_
  rintro _ w9 ⟨rfl, x9⟩
  clear b0 b1 b2
  obtain ⟨s0, s1, s2, s3, s4⟩ := cs5.out _ (zq.trans (y7.trans (x8.trans x9)))
  have z9 := z3.trans (x4.trans (z5.trans (zq.trans (y7.trans (x8.trans x9)))))
  go_wp2_with fail
  refine (aSparse _ _ _ _ (Ib.out.ext z9) (Ic.out.ext z9) (Iv.out.ext z9)).mono ?_
  rintro _ w10 ⟨rfl, x10⟩
  go_wp2_with fail
  go_ret
  exact ⟨rfl, hE.out.trans (y3.trans (z9.trans x10))⟩
end Go.Proofs.Ytlociefncogjeaa
