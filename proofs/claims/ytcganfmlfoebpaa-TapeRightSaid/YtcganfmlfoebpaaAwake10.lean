/- The first look of layer 10's laws: it answers true. -/
import Derived.Test.YtcganfmlfoebpaaTp6
namespace Go.Proofs.Ytcganfmlfoebpaa
open Go.RowKit Go.Maps

def awL : List Int := [18446744073709551615, 7, 3, 8]
theorem awL_u : U64s awL := by unfold U64s; decide
theorem aw1 : drX 3 0 awL = 1 ∧ drK 3 0 1 0 awL = 2 ∧ drE 3 0 1 0 awL = 0 := by decide +kernel
theorem aw2 : drL 3 1 1 2 awL = [2] ∧ drK 3 1 1 2 awL = 4 ∧ drE 3 1 1 2 awL = 0 := by decide +kernel
theorem aw3 : drL 3 0 3 2 awL = [] ∧ drK 3 0 3 2 awL = 4 ∧ drE 3 0 3 2 awL = 9 := by decide +kernel
theorem aw4 : leftN 3 0 awL = 3 ∧ tapeB 0 awL = true ∧ cntB 3 18446744073709551615 = false := by decide +kernel
set_option maxRecDepth 100000 in
set_option maxHeartbeats 1000000 in
theorem awake10 (w : World) : Calls Try.prog 7 #[] w (Ret (.bool true) w) := by
  have C1 := hid fun (W : World) (v : Value) (hv : Ints .u64 W v awL) => tpDrawE (by omega) (by omega) (by omega) awL_u (by decide) aw1.1 aw1.2.1 aw1.2.2 hv
  have C2 := hid fun (W : World) (v : Value) (hv : Ints .u64 W v awL) => tpOtherE (by omega) (by omega) (by omega) (by omega) awL_u (by decide) aw2.1 aw2.2.1 aw2.2.2 hv
  have C3 := hid fun (W : World) (v : Value) (hv : Ints .u64 W v awL) => tpManyE (by omega) (by omega) (by omega) (by omega) awL_u (by decide) aw3.1 aw3.2.1 aw3.2.2 hv
  have C4 := hid fun (W : World) (v : Value) (hv : Ints .u64 W v awL) => tpLeftE (by omega) (by omega) awL_u aw4.1 hv
  have C5 := hid fun (W : World) (v : Value) (hv : Ints .u64 W v awL) => tpRightE aw4.2.1 hv
  have C6 := hid fun (W : World) => (show Calls Try.prog 13 #[.int .u64 3, .int .u64 18446744073709551615] W fun e w' => e = .returned (.bool false) ∧ W = w' from aw4.2.2 ▸ tpCounts 3 18446744073709551615 W (by omega) (by omega))
  unfold RetTd at C1
  unfold RetTp at C2 C3
  have IT0 := hid (Ints.lit (k := .u64) (w := w) (t := 22) awL (by decide) rfl)
  go_enter Try.func7, Try.ntmps7
  have z1 := (Ext.refl w).alloc (.cells #[.int .u64 18446744073709551615, .int .u64 7, .int .u64 3, .int .u64 8] 22)
  have z2 := (Ext.refl (w.alloc (.cells #[.int .u64 18446744073709551615, .int .u64 7, .int .u64 3, .int .u64 8] 22))).alloc (.cells #[.slice (some ⟨w.heap.size, 0, none⟩) 4 4, .int .i64 0] 25)
  have HT := hid (Blk.new (w.alloc (.cells #[.int .u64 18446744073709551615, .int .u64 7, .int .u64 3, .int .u64 8] 22)) 25 #[.slice (some ⟨w.heap.size, 0, none⟩) 4 4, .int .i64 0])
  rw [alloc_size] at HT
  go_wp2_with fail
  refine (C1.out _ _ (IT0.out.ext z2)).mono ?_
  rintro _ w1 ⟨v1, rfl, i1, xw1⟩
  have I1 := hid i1
  obtain ⟨a1, c1, rfl, -, -, -⟩ := i1
  have z4 := (Ext.refl w1).alloc (.cells #[.slice a1 awL.length c1, .int .i64 2] 25)
  have HU := hid (Blk.new w1 25 #[.slice a1 awL.length c1, .int .i64 2])
  obtain ⟨hu_0, hu_1⟩ := HU.out.at2
  go_wp2_with fail
  refine (C2.out _ _ (I1.out.ext z4)).mono ?_
  rintro _ w2 ⟨v2, u2, rfl, j2, i2, xw2⟩
  clear hu_0 hu_1
  have I2 := hid j2
  obtain ⟨b2, d2, rfl, -, -, hc2⟩ := j2
  obtain ⟨a2, c2, rfl, -, -, -⟩ := i2
  obtain ⟨g2, f2, rfl, hg2, hcell2⟩ := hc2 (by simp)
  have hx2 := hcell2 0 (by simp)
  simp at hx2
  have HX2 := hid (fun (W : World) (hW : Ext w2 W) => (hW.cells _ _ hg2).trans hx2)
  clear hc2 hcell2 hx2
  have z6 := (Ext.refl w2).alloc (.cells #[.slice a2 awL.length c2, .int .i64 4] 25)
  have HV := hid (Blk.new w2 25 #[.slice a2 awL.length c2, .int .i64 4])
  obtain ⟨hu_0, hu_1⟩ := (HU.out.ext (xw2.trans z6)).at2
  go_wp2_with fail
  refine (C3.out _ _ (I1.out.ext (z4.trans (xw2.trans z6)))).mono ?_
  rintro _ w3 ⟨v3, u3, rfl, j3, i3, xw3⟩
  clear hu_0 hu_1
  obtain ⟨b3, d3, rfl, -, -, -⟩ := j3
  obtain ⟨a3, c3, rfl, -, -, -⟩ := i3
  have z8 := (Ext.refl w3).alloc (.cells #[.slice a3 awL.length c3, .int .i64 4] 25)
  have hx2 := HX2.out _ (z6.trans (xw3.trans z8))
  obtain ⟨ht_0, ht_1⟩ := (HT.out.ext (xw1.trans (z4.trans (xw2.trans (z6.trans (xw3.trans z8)))))).at2
  obtain ⟨hu_0, hu_1⟩ := (HU.out.ext (xw2.trans (z6.trans (xw3.trans z8)))).at2
  obtain ⟨hv_0, hv_1⟩ := (HV.out.ext (xw3.trans z8)).at2
  go_wp2_with fail
  refine (C4.out _ _ (IT0.out.ext (z2.trans (xw1.trans (z4.trans (xw2.trans (z6.trans (xw3.trans z8)))))))).mono ?_
  rintro _ w4 ⟨rfl, xw4⟩
  clear ht_0 ht_1 hu_0 hu_1 hv_0 hv_1
  obtain ⟨ht_0, ht_1⟩ := (HT.out.ext (xw1.trans (z4.trans (xw2.trans (z6.trans (xw3.trans (z8.trans xw4))))))).at2
  go_wp2_with fail
  refine (C5.out _ _ (IT0.out.ext (z2.trans (xw1.trans (z4.trans (xw2.trans (z6.trans (xw3.trans (z8.trans xw4))))))))).mono ?_
  rintro _ w5 ⟨rfl, xw5⟩
  clear ht_0 ht_1
  go_wp2_with fail
  refine (C6.out _).mono ?_
  rintro _ _ ⟨rfl, rfl⟩
  go_wp2_with fail
  go_ret
  exact ⟨rfl, (z1.trans (z2.trans (xw1.trans (z4.trans (xw2.trans (z6.trans (xw3.trans (z8.trans (xw4.trans xw5)))))))))⟩
end Go.Proofs.Ytcganfmlfoebpaa
