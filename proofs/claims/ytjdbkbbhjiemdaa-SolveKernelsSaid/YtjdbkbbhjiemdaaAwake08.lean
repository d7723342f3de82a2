/- The first look of layer 8's laws: it answers true. -/
import Derived.Test.YtjdbkbbhjiemdaaSolB6
import Derived.Test.YtjdbkbbhjiemdaaSame
import Derived.Test.YtjdbkbbhjiemdaaCupB8
namespace Go.Proofs.Ytjdbkbbhjiemdaa
open Go.RowKit Go.Maps

set_option maxRecDepth 100000 in
set_option maxHeartbeats 2000000 in
theorem awake08 (w : World) : Calls Try.prog 8 #[] w (Ret (.bool true) w) := by
  have C1 := hid fun (W : World) (v u : Value) (hv : Ints .u64 W v xs8) (hu : Ints .u64 W u [1, 2]) => (show Calls Try.prog 10 #[.int .u64 7, .agg #[.int .i64 2, .int .i64 2, v], u] W (RetE 0 [1, 0] W) from svSolve_yes 7 2 2 v u xs8 [1, 2] [1, 0] W ok8 fld7 hv hu rfl (by unfold Rng; decide) sol8)
  have C2 := hid fun (W : World) (v u : Value) (hv : Ints .u64 W v xs8) (hu : Ints .u64 W u [1, 3]) => (show Calls Try.prog 11 #[.int .u64 7, .agg #[.int .i64 2, .int .i64 2, v], u] W (RetE 0 [5, 1] W) from svAgainst_yes 7 2 2 v u xs8 [1, 3] [5, 1] W ok8 fld7 hv hu rfl (by unfold Rng; decide) ag8)
  have C3 := hid fun (W : World) (v : Value) (hv : Ints .u64 W v xs8) => (show Calls Try.prog 12 #[.int .u64 7, .agg #[.int .i64 2, .int .i64 2, v]] W (RetE 0 [5, 1] W) from svKernel_yes 7 2 2 v xs8 [5, 1] W ok8 fld7 hv k8 (by rw [take8]; decide))
  have C4 := hid fun (W : World) (v : Value) (hv : Ints .u64 W v xs8) => (show Calls Try.prog 13 #[.int .u64 7, .agg #[.int .i64 2, .int .i64 2, v]] W (RetE 0 [5, 1] W) from svLeft_yes 7 2 2 v xs8 [5, 1] W ok8 fld7 hv le8)
  have C5 := hid fun (W : World) (v : Value) (hv : Ints .u64 W v [3]) => (show Calls Try.prog 30 #[.int .u64 7, .agg #[.int .i64 1, .int .i64 1, v]] W (RetN 1 1 [5] W) from svInverse_yes 7 1 v [3] [5] W ok8i fld7 hv rank8i inv8)
  have C6 := hid fun (W : World) (v : Value) (hv : Ints .u64 W v xs8) => (show Calls Try.prog 14 #[.int .u64 7, .agg #[.int .i64 2, .int .i64 2, v], .int .i64 1] W (RetE 0 [5, 1] W) from svRows_yes 7 2 2 1 v xs8 [5, 1] W ok8 fld7 hv (by decide) (by rw [take8]; decide) y8)
  have IM0 := (show Ints .u64 ((w.alloc (.cells #[.int .u64 1, .int .u64 2, .int .u64 2, .int .u64 4] 22)).alloc (.cells #[.int .i64 2, .int .i64 2, .slice (some ⟨w.heap.size, 0, none⟩) 4 4] 25)) (.slice (some ⟨w.heap.size, 0, none⟩) 4 4) xs8 from (Ints.lit (k := .u64) (w := w) (t := 22) xs8 (by decide) rfl).alloc (.cells #[.int .i64 2, .int .i64 2, .slice (some ⟨w.heap.size, 0, none⟩) 4 4] 25))
  have HA0 := (show Blk ((w.alloc (.cells #[.int .u64 1, .int .u64 2, .int .u64 2, .int .u64 4] 22)).alloc (.cells #[.int .i64 2, .int .i64 2, .slice (some ⟨w.heap.size, 0, none⟩) 4 4] 25)) (w.heap.size + 1) 25 #[.int .i64 2, .int .i64 2, .slice (some ⟨w.heap.size, 0, none⟩) 4 4] from Blk.at_ (w := w.alloc (.cells #[.int .u64 1, .int .u64 2, .int .u64 2, .int .u64 4] 22)) (t := 25) (cs := #[.int .i64 2, .int .i64 2, .slice (some ⟨w.heap.size, 0, none⟩) 4 4]) (g := w.heap.size + 1) (by rw [alloc_size]))
  have hx0 : Ext w ((w.alloc (.cells #[.int .u64 1, .int .u64 2, .int .u64 2, .int .u64 4] 22)).alloc (.cells #[.int .i64 2, .int .i64 2, .slice (some ⟨w.heap.size, 0, none⟩) 4 4] 25)) := (((Ext.refl w).alloc _)).alloc _
  unfold RetE at C1 C2 C3 C4 C6
  unfold RetN matV at C5
  go_enter Try.func8, Try.ntmps8
  go_upto_region 2 with fail
  obtain ⟨W0, e0⟩ : ∃ W, ((w.alloc (.cells #[.int .u64 1, .int .u64 2, .int .u64 2, .int .u64 4] 22)).alloc (.cells #[.int .i64 2, .int .i64 2, .slice (some ⟨w.heap.size, 0, none⟩) 4 4] 25)) = W := ⟨_, rfl⟩
  rw [e0] at IM0 HA0 hx0
  rw [e0]
  have IM := hid IM0; have HA := hid HA0; have hW0 := hid hx0
  clear e0 IM0 HA0 hx0
  obtain ⟨ha_0, ha_1, ha_2⟩ := HA.out.at3
  go_wp2_with fail
  have z2 := (Ext.refl W0).alloc (.cells #[.int .u64 1, .int .u64 2] 22)
  refine (C1.out _ _ _ (IM.out.ext z2) (Ints.lit (k := .u64) (w := W0) (t := 22) [1, 2] (by decide) rfl)).mono ?_
  rintro _ w1 ⟨v1, rfl, i1, xw1⟩
  clear ha_0 ha_1 ha_2
  have I1 := hid i1
  obtain ⟨a1, k1, rfl, _, _, kk⟩ := i1
  clear kk
  obtain ⟨ha_0, ha_1, ha_2⟩ := (HA.out.ext (z2.trans xw1)).at3
  go_wp2_with fail
  have z4 := (Ext.refl w1).alloc (.cells #[.int .u64 1, .int .u64 3] 22)
  refine (C2.out _ _ _ (IM.out.ext (z2.trans (xw1.trans z4))) (Ints.lit (k := .u64) (w := w1) (t := 22) [1, 3] (by decide) rfl)).mono ?_
  rintro _ w2 ⟨v2, rfl, i2, xw2⟩
  clear ha_0 ha_1 ha_2
  have I2 := hid i2
  obtain ⟨a2, k2, rfl, _, _, kk⟩ := i2
  clear kk
  obtain ⟨ha_0, ha_1, ha_2⟩ := (HA.out.ext (z2.trans (xw1.trans (z4.trans xw2)))).at3
  go_wp2_with fail
  refine (C3.out _ _ (IM.out.ext (z2.trans (xw1.trans (z4.trans xw2))))).mono ?_
  rintro _ w3 ⟨v3, rfl, i3, xw3⟩
  clear ha_0 ha_1 ha_2
  have I3 := hid i3
  obtain ⟨a3, k3, rfl, _, _, kk⟩ := i3
  clear kk
  obtain ⟨ha_0, ha_1, ha_2⟩ := (HA.out.ext (z2.trans (xw1.trans (z4.trans (xw2.trans xw3))))).at3
  go_wp2_with fail
  refine (C4.out _ _ (IM.out.ext (z2.trans (xw1.trans (z4.trans (xw2.trans xw3)))))).mono ?_
  rintro _ w4 ⟨v4, rfl, i4, xw4⟩
  clear ha_0 ha_1 ha_2
  have I4 := hid i4
  obtain ⟨a4, k4, rfl, _, _, kk⟩ := i4
  clear kk
  go_wp2_with fail
  have z8 := (Ext.refl w4).alloc (.cells #[.int .u64 3] 22)
  refine (C5.out _ _ (Ints.lit (k := .u64) (w := w4) (t := 22) [3] (by decide) rfl)).mono ?_
  rintro _ w5 ⟨v5, rfl, i5, xw5⟩
  have I5 := hid i5
  obtain ⟨a5, k5, rfl, _, _, kk⟩ := i5
  clear kk
  have z10 := (Ext.refl w5).alloc (.cells #[.int .i64 1, .int .i64 1, .slice a5 1 k5] 25)
  have HN := hid (Blk.new w5 25 #[.int .i64 1, .int .i64 1, .slice a5 1 k5])
  obtain ⟨ha_0, ha_1, ha_2⟩ := (HA.out.ext (z2.trans (xw1.trans (z4.trans (xw2.trans (xw3.trans (xw4.trans (z8.trans (xw5.trans z10))))))))).at3
  go_wp2_with fail
  refine (C6.out _ _ (IM.out.ext (z2.trans (xw1.trans (z4.trans (xw2.trans (xw3.trans (xw4.trans (z8.trans (xw5.trans z10)))))))))).mono ?_
  rintro _ w6 ⟨v6, rfl, i6, xw6⟩
  clear ha_0 ha_1 ha_2
  have I6 := hid i6
  obtain ⟨a6, k6, rfl, _, _, kk⟩ := i6
  clear kk
  go_wp2_with fail
  have z12 := (Ext.refl w6).alloc (.cells #[.int .u64 1, .int .u64 0] 22)
  refine (same_yes _ _ _ _ (I1.out.ext (z4.trans (xw2.trans (xw3.trans (xw4.trans (z8.trans (xw5.trans (z10.trans (xw6.trans z12))))))))) (Ints.lit (k := .u64) (w := w6) (t := 22) [1, 0] (by decide) rfl)).mono ?_
  rintro _ w7 ⟨rfl, xw7⟩
  go_wp2_with fail
  have z14 := (Ext.refl w7).alloc (.cells #[.int .u64 5, .int .u64 1] 22)
  refine (same_yes _ _ _ _ (I2.out.ext (xw3.trans (xw4.trans (z8.trans (xw5.trans (z10.trans (xw6.trans (z12.trans (xw7.trans z14))))))))) (Ints.lit (k := .u64) (w := w7) (t := 22) [5, 1] (by decide) rfl)).mono ?_
  rintro _ w8 ⟨rfl, xw8⟩
  go_wp2_with fail
  have z16 := (Ext.refl w8).alloc (.cells #[.int .u64 5, .int .u64 1] 22)
  refine (same_yes _ _ _ _ (I3.out.ext (xw4.trans (z8.trans (xw5.trans (z10.trans (xw6.trans (z12.trans (xw7.trans (z14.trans (xw8.trans z16)))))))))) (Ints.lit (k := .u64) (w := w8) (t := 22) [5, 1] (by decide) rfl)).mono ?_
  rintro _ w9 ⟨rfl, xw9⟩
  go_wp2_with fail
  refine (same_yes _ _ _ _ (I4.out.ext (z8.trans (xw5.trans (z10.trans (xw6.trans (z12.trans (xw7.trans (z14.trans (xw8.trans (z16.trans xw9)))))))))) (I2.out.ext (xw3.trans (xw4.trans (z8.trans (xw5.trans (z10.trans (xw6.trans (z12.trans (xw7.trans (z14.trans (xw8.trans (z16.trans xw9))))))))))))).mono ?_
  rintro _ w10 ⟨rfl, xw10⟩
  go_wp2_with fail
  refine (same_yes _ _ _ _ (I6.out.ext (z12.trans (xw7.trans (z14.trans (xw8.trans (z16.trans (xw9.trans xw10))))))) (I2.out.ext (xw3.trans (xw4.trans (z8.trans (xw5.trans (z10.trans (xw6.trans (z12.trans (xw7.trans (z14.trans (xw8.trans (z16.trans (xw9.trans xw10)))))))))))))).mono ?_
  rintro _ w11 ⟨rfl, xw11⟩
  obtain ⟨hn_0, hn_1, hn_2⟩ := (HN.out.ext (xw6.trans (z12.trans (xw7.trans (z14.trans (xw8.trans (z16.trans (xw9.trans (xw10.trans xw11))))))))).at3
  go_wp2_with fail
  have z20 := (Ext.refl w11).alloc (.cells #[.int .u64 5] 22)
  refine (same_yes _ _ _ _ (I5.out.ext (z10.trans (xw6.trans (z12.trans (xw7.trans (z14.trans (xw8.trans (z16.trans (xw9.trans (xw10.trans (xw11.trans z20))))))))))) (Ints.lit (k := .u64) (w := w11) (t := 22) [5] (by decide) rfl)).mono ?_
  rintro _ w12 ⟨rfl, xw12⟩
  clear hn_0 hn_1 hn_2
  go_wp2_with fail
  go_ret
  exact ⟨rfl, (hW0.out.trans (z2.trans (xw1.trans (z4.trans (xw2.trans (xw3.trans (xw4.trans (z8.trans (xw5.trans (z10.trans (xw6.trans (z12.trans (xw7.trans (z14.trans (xw8.trans (z16.trans (xw9.trans (xw10.trans (xw11.trans (z20.trans xw12))))))))))))))))))))⟩
end Go.Proofs.Ytjdbkbbhjiemdaa
