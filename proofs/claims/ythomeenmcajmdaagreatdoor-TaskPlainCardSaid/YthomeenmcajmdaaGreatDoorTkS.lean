import Derived.Test.YthomeenmcajmdaaGreatDoorBun09
import Derived.Test.YthomeenmcajmdaaGreatDoorBun04
import Derived.Test.YthomeenmcajmdaaGreatDoorBun05
import Derived.Test.YthomeenmcajmdaaGreatDoorRefParts
import Derived.Test.YthomeenmcajmdaaGreatDoorBun06
import Derived.Test.YthomeenmcajmdaaGreatDoorProof
import Derived.Test.YthomeenmcajmdaaGreatDoorBun22
import Derived.Deep.RegionLaw
import Derived.Deep.RegionHeld3
namespace Go.Proofs.YthomeenmcajmdaaGreatDoor
open Go.RowKit Go.Maps
set_option maxRecDepth 100000 in
set_option maxHeartbeats 2000000 in
theorem tkSame (T : Tsk) (pv u u2 bv pv' u' u2' bv' : Value) (w : World) (h : TkR w T pv u u2 bv) (h' : TkR w T pv' u' u2' bv') : Calls Tryz.prog 18 #[taskV T pv u u2 bv, taskV T pv' u' u2' bv'] w (Ret (.bool true) w) := by
  have C1 := hid fun (W : World) (hW : Ext w W) => rmSame T.r T.c T.r T.c u u' T.xs T.xs W (h.i1.ext hW) (h'.i1.ext hW)
  have C2 := hid fun (W : World) (hW : Ext w W) => rmSame T.r2 T.c2 T.r2 T.c2 u2 u2' T.ys T.ys W (h.i2.ext hW) (h'.i2.ext hW)
  have C3 := hid fun (W : World) (hW : Ext w W) => same_yes bv bv' T.bs W (h.i3.ext hW) (h'.i3.ext hW)
  rw [decide_eq_true (show T.r = T.r ∧ T.c = T.c ∧ T.xs = T.xs from ⟨rfl, rfl, rfl⟩)] at C1
  rw [decide_eq_true (show T.r2 = T.r2 ∧ T.c2 = T.c2 ∧ T.ys = T.ys from ⟨rfl, rfl, rfl⟩)] at C2
  obtain ⟨⟨pa, pc, rfl, p1, p2, p3⟩, ⟨ua, uc, rfl, -, -, -⟩, ⟨va, vc, rfl, -, -, -⟩, ⟨ba, bc, rfl, -, -, -⟩⟩ := h
  obtain ⟨⟨pa', pc', rfl, q1, q2, q3⟩, ⟨ua', uc', rfl, -, -, -⟩, ⟨va', vc', rfl, -, -, -⟩, ⟨ba', bc', rfl, -, -, -⟩⟩ := h'
  obtain ⟨k, p, l, r, c, xs, r2, c2, ys, bs⟩ := T
  simp only [taskV, matV] at *
  obtain ⟨L2, hL2⟩ : ∃ L2, ys.length = L2 := ⟨_, rfl⟩
  obtain ⟨L3, hL3⟩ : ∃ L3, bs.length = L3 := ⟨_, rfl⟩
  obtain ⟨L1, hL1⟩ : ∃ L1, xs.length = L1 := ⟨_, rfl⟩
  obtain ⟨L0, hL0⟩ : ∃ L0, l.length = L0 := ⟨_, rfl⟩
  rw [hL0, hL1, hL2, hL3]
  rw [hL1] at C1
  rw [hL2] at C2
  rw [hL3] at C3
  rw [hL0] at p1 p3 q1 q3
  have P3 := hid p3; have Q3 := hid q3
  clear hL0 hL1 hL2 hL3 p3 q3
  have hA := hid (Blk.new w 28 #[.int .i64 k, .int .u64 p, .slice pa L0 pc, .int .i64 r, .int .i64 c, .slice ua L1 uc, .int .i64 r2, .int .i64 c2, .slice va L2 vc, .slice ba L3 bc])
  have hB := hid (Blk.at_ (w := w.alloc (.cells #[.int .i64 k, .int .u64 p, .slice pa L0 pc, .int .i64 r, .int .i64 c, .slice ua L1 uc, .int .i64 r2, .int .i64 c2, .slice va L2 vc, .slice ba L3 bc] 28)) (t := 28) (cs := #[.int .i64 k, .int .u64 p, .slice pa' L0 pc', .int .i64 r, .int .i64 c, .slice ua' L1 uc', .int .i64 r2, .int .i64 c2, .slice va' L2 vc', .slice ba' L3 bc']) (g := w.heap.size + 1) (by rw [alloc_size]))
  have hX : Ext w ((w.alloc (.cells #[.int .i64 k, .int .u64 p, .slice pa L0 pc, .int .i64 r, .int .i64 c, .slice ua L1 uc, .int .i64 r2, .int .i64 c2, .slice va L2 vc, .slice ba L3 bc] 28)).alloc (.cells #[.int .i64 k, .int .u64 p, .slice pa' L0 pc', .int .i64 r, .int .i64 c, .slice ua' L1 uc', .int .i64 r2, .int .i64 c2, .slice va' L2 vc', .slice ba' L3 bc'] 28)) := ((Ext.refl w).alloc _).alloc _
  obtain ⟨wb, hwb⟩ : ∃ W, (w.alloc (.cells #[.int .i64 k, .int .u64 p, .slice pa L0 pc, .int .i64 r, .int .i64 c, .slice ua L1 uc, .int .i64 r2, .int .i64 c2, .slice va L2 vc, .slice ba L3 bc] 28)).alloc (.cells #[.int .i64 k, .int .u64 p, .slice pa' L0 pc', .int .i64 r, .int .i64 c, .slice ua' L1 uc', .int .i64 r2, .int .i64 c2, .slice va' L2 vc', .slice ba' L3 bc'] 28) = W := ⟨_, rfl⟩
  have HA := hid (hA.out.ext ((Ext.refl _).alloc (.cells #[.int .i64 k, .int .u64 p, .slice pa' L0 pc', .int .i64 r, .int .i64 c, .slice ua' L1 uc', .int .i64 r2, .int .i64 c2, .slice va' L2 vc', .slice ba' L3 bc'] 28)))
  rw [hwb] at HA hB hX
  clear hA
  obtain ⟨a0, a1, a2, a3, a4, a5, a6, a7, a8, a9⟩ := HA.out.at10
  obtain ⟨b0, b1, b2, b3, b4, b5, b6, b7, b8, b9⟩ := hB.out.at10
  go_enter Tryz.func18, Tryz.ntmps18
  go_wp2_with fail
  refine (C1.out _ hX).mono ?_; rintro _ w1 ⟨rfl, x1⟩
  clear a0 a1 a2 a3 a4 a5 a6 a7 a8 a9 b0 b1 b2 b3 b4 b5 b6 b7 b8 b9
  obtain ⟨a0, a1, a2, a3, a4, a5, a6, a7, a8, a9⟩ := (HA.out.ext x1).at10
  obtain ⟨b0, b1, b2, b3, b4, b5, b6, b7, b8, b9⟩ := (hB.out.ext x1).at10
  go_wp2_with fail
  refine (C2.out _ (hX.trans x1)).mono ?_; rintro _ w2 ⟨rfl, x2⟩
  clear a0 a1 a2 a3 a4 a5 a6 a7 a8 a9 b0 b1 b2 b3 b4 b5 b6 b7 b8 b9
  obtain ⟨a0, a1, a2, a3, a4, a5, a6, a7, a8, a9⟩ := (HA.out.ext (x1.trans x2)).at10
  obtain ⟨b0, b1, b2, b3, b4, b5, b6, b7, b8, b9⟩ := (hB.out.ext (x1.trans x2)).at10
  go_wp2_with fail
  refine (C3.out _ (hX.trans (x1.trans x2))).mono ?_; rintro _ w3 ⟨rfl, x3⟩
  clear a0 a1 a2 a3 a4 a5 a6 a7 a8 a9 b0 b1 b2 b3 b4 b5 b6 b7 b8 b9
  have hx3 : Ext wb w3 := x1.trans (x2.trans x3)
  go_wp2_with fail
  go_loopw [5] (fun i wr => ∃ j : Nat, i = .int .i64 j ∧ j ≤ L0 ∧ Ext w3 wr) (fun i _ => L0 - (intOf i).toNat)
  case atStart => exact ⟨0, rfl, Nat.zero_le _, (by repeat (first | exact Ext.refl _ | assumption | refine Ext.drew ?_ | refine Ext.drewN ?_ _ | refine Ext.alloc ?_ _ | refine Ext.trans ?_ (by assumption)))⟩
  case round =>
    obtain ⟨j, rfl, hj, hx⟩ := hrel
    have hxr : Ext wb wr := hx3.trans hx
    obtain ⟨a0, a1, a2, a3, a4, a5, a6, a7, a8, a9⟩ := (HA.out.ext hxr).at10
    obtain ⟨b0, b1, b2, b3, b4, b5, b6, b7, b8, b9⟩ := (hB.out.ext hxr).at10
    by_cases hlt : j < L0
    · obtain ⟨g, o, rfl, hg, hc⟩ := P3.out (by omega)
      obtain ⟨g', o', rfl, hg', hc'⟩ := Q3.out (by omega)
      obtain ⟨c1, c2, v, c3, c4⟩ := hc j hlt
      obtain ⟨d1, d2, v', d3, d4⟩ := hc' j hlt
      have hwr : Ext w wr := hX.trans hxr
      have k1 := (hwr.cells _ _ hg).trans c1
      have k2 := (hwr.cells _ _ hg).trans c2
      have k3 := (hwr.cells _ _ hg).trans c3
      have m1 := (hwr.cells _ _ hg').trans d1
      have m2 := (hwr.cells _ _ hg').trans d2
      have m3 := (hwr.cells _ _ hg').trans d3
      have Hc4 := hid (c4.ext hwr); have Hd4 := hid (d4.ext hwr)
      generalize l.getD j .zero = f at *
      obtain ⟨n, rt, ps⟩ := f
      simp only at k1 k2 m1 m2 Hc4 Hd4 c4 d4
      obtain ⟨sa, sc, rfl, -, -, -⟩ := c4
      obtain ⟨sa', sc', rfl, -, -, -⟩ := d4
      clear hc hc' c1 c2 c3 d1 d2 d3
      go_upto_region 6 with fail
      clear a0 a1 a2 a3 a4 a5 a6 a7 a8 a9 b0 b1 b2 b3 b4 b5 b6 b7 b8 b9
      have hgr := cell_lt k1
      have hgr' := cell_lt m1
      simp only at hgr hgr'
      refine wp_region_held_drew (S := fun W' => Ext wr W') (by kernel_rfl) ((Ext.refl wr).drew) (fun hHeld => ?_)
      refine wpAnyH_take (i := 0) (v := .pointer (some ⟨w.heap.size, 2, none⟩)) rfl (by kernel_rfl) (by kernel_rfl) (by kernel_rfl) (fun _ _ _ h => h) (Or.inl ⟨by rfl, ?_⟩) hHeld ?_
      · intro W' hSw
        go_simp
      refine wpAnyH_take (i := 1) (v := .slice (some ⟨g, o, none⟩) L0 pc) rfl (by kernel_rfl) (by kernel_rfl) (by kernel_rfl) (fun _ _ _ h => h) (Or.inl ⟨by rfl, ?_⟩) hHeld ?_
      · intro W' hSw
        have t1 := (HA.out.ext (hxr.trans hSw)).cell 2
        go_simp
      refine wpAnyH_take (i := 2) (v := .int .i64 (j : Int)) rfl (by kernel_rfl) (by kernel_rfl) (by kernel_rfl) (fun _ _ _ h => h) (Or.inl ⟨by rfl, ?_⟩) hHeld ?_
      · intro W' hSw
        go_simp
      refine wpAnyH_take (i := 3) (v := .pointer (some ⟨g, o + j * 3, none⟩)) rfl (by kernel_rfl) (by kernel_rfl) (by kernel_rfl) (fun _ _ _ h => h) (Or.inl ⟨by rfl, ?_⟩) hHeld ?_
      · intro W' hSw
        go_simp
      refine wpAnyH_take (i := 4) (v := .agg #[.int .u64 n, .int .u64 rt, .slice sa ps.length sc]) rfl (by kernel_rfl) (by kernel_rfl) (by kernel_rfl) (fun _ _ _ h => h) (Or.inl ⟨by rfl, ?_⟩) hHeld ?_
      · intro W' hSw
        have t1 := (hSw.cells _ _ hgr).trans k1; have t2 := (hSw.cells _ _ hgr).trans k2; have t3 := (hSw.cells _ _ hgr).trans k3
        go_simp
      refine wpAnyH_take (i := 5) (v := .pointer (some ⟨w.heap.size + 1, 2, none⟩)) rfl (by kernel_rfl) (by kernel_rfl) (by kernel_rfl) (fun _ _ _ h => h) (Or.inl ⟨by rfl, ?_⟩) hHeld ?_
      · intro W' hSw
        go_simp
      refine wpAnyH_take (i := 6) (v := .slice (some ⟨g', o', none⟩) L0 pc') rfl (by kernel_rfl) (by kernel_rfl) (by kernel_rfl) (fun _ _ _ h => h) (Or.inl ⟨by rfl, ?_⟩) hHeld ?_
      · intro W' hSw
        have t1 := (hB.out.ext (hxr.trans hSw)).cell 2
        go_simp
      refine wpAnyH_take (i := 7) (v := .int .i64 (j : Int)) rfl (by kernel_rfl) (by kernel_rfl) (by kernel_rfl) (fun _ _ _ h => h) (Or.inl ⟨by rfl, ?_⟩) hHeld ?_
      · intro W' hSw
        go_simp
      refine wpAnyH_take (i := 8) (v := .pointer (some ⟨g', o' + j * 3, none⟩)) rfl (by kernel_rfl) (by kernel_rfl) (by kernel_rfl) (fun _ _ _ h => h) (Or.inl ⟨by rfl, ?_⟩) hHeld ?_
      · intro W' hSw
        go_simp
      refine wpAnyH_take (i := 9) (v := .agg #[.int .u64 n, .int .u64 rt, .slice sa' ps.length sc']) rfl (by kernel_rfl) (by kernel_rfl) (by kernel_rfl) (fun _ _ _ h => h) (Or.inl ⟨by rfl, ?_⟩) hHeld ?_
      · intro W' hSw
        have t1 := (hSw.cells _ _ hgr').trans m1; have t2 := (hSw.cells _ _ hgr').trans m2; have t3 := (hSw.cells _ _ hgr').trans m3
        go_simp
      refine wpAnyH_ready (rs := [10, 11]) (by kernel_rfl) (by simp) ?_
      refine AllReadyH.cons rfl (fun K hK => ?_) ?_
      · go_simp
        refine hK.out _ _ (by repeat (first | exact Ext.refl _ | assumption | refine Ext.drew ?_ | refine Ext.drewN ?_ _ | refine Ext.alloc ?_ _ | refine Ext.trans ?_ (by assumption))) (fun hHeld => ?_)
        clear hK K
        refine held_step 11 (by kernel_rfl) rfl (fun K hK => ?_)
        go_simp
        refine hK.out _ _ (by repeat (first | exact Ext.refl _ | assumption | refine Ext.drew ?_ | refine Ext.drewN ?_ _ | refine Ext.alloc ?_ _ | refine Ext.trans ?_ (by assumption))) (fun hHeld => ?_)
        clear hK K
        refine held_step 12 (by kernel_rfl) rfl (fun K hK => ?_)
        go_simp
        refine hK.out _ _ (by repeat (first | exact Ext.refl _ | assumption | refine Ext.drew ?_ | refine Ext.drewN ?_ _ | refine Ext.alloc ?_ _ | refine Ext.trans ?_ (by assumption))) (fun hHeld => ?_)
        clear hK K
        refine held_step 13 (by kernel_rfl) rfl (fun K hK => ?_)
        go_simp
        refine hK.out _ _ (by repeat (first | exact Ext.refl _ | assumption | refine Ext.drew ?_ | refine Ext.drewN ?_ _ | refine Ext.alloc ?_ _ | refine Ext.trans ?_ (by assumption))) (fun hHeld => ?_)
        clear hK K
        refine wpAnyH_done (by kernel_rfl) ?_ _
        go_wp2_with fail
        refine (Same_eq _ _ ps _ (Hc4.out.ext hHeld) (Hd4.out.ext hHeld)).mono ?_; rintro _ w9 ⟨rfl, x9⟩
        have X9 : Ext w3 w9 := hx.trans (hHeld.trans x9)
        go_wp2_with fail
        go_roundw
        case rel => exact ⟨j + 1, by go_num, by omega, X9⟩
        case measure => simp [intOf]; omega
      refine AllReadyH.cons rfl (fun K hK => ?_) ?_
      · go_simp
        refine hK.out _ _ (by repeat (first | exact Ext.refl _ | assumption | refine Ext.drew ?_ | refine Ext.drewN ?_ _ | refine Ext.alloc ?_ _ | refine Ext.trans ?_ (by assumption))) (fun hHeld => ?_)
        clear hK K
        refine held_step 10 (by kernel_rfl) rfl (fun K hK => ?_)
        go_simp
        refine hK.out _ _ (by repeat (first | exact Ext.refl _ | assumption | refine Ext.drew ?_ | refine Ext.drewN ?_ _ | refine Ext.alloc ?_ _ | refine Ext.trans ?_ (by assumption))) (fun hHeld => ?_)
        clear hK K
        refine held_step 12 (by kernel_rfl) rfl (fun K hK => ?_)
        go_simp
        refine hK.out _ _ (by repeat (first | exact Ext.refl _ | assumption | refine Ext.drew ?_ | refine Ext.drewN ?_ _ | refine Ext.alloc ?_ _ | refine Ext.trans ?_ (by assumption))) (fun hHeld => ?_)
        clear hK K
        refine held_step 13 (by kernel_rfl) rfl (fun K hK => ?_)
        go_simp
        refine hK.out _ _ (by repeat (first | exact Ext.refl _ | assumption | refine Ext.drew ?_ | refine Ext.drewN ?_ _ | refine Ext.alloc ?_ _ | refine Ext.trans ?_ (by assumption))) (fun hHeld => ?_)
        clear hK K
        refine wpAnyH_done (by kernel_rfl) ?_ _
        go_wp2_with fail
        refine (Same_eq _ _ ps _ (Hc4.out.ext hHeld) (Hd4.out.ext hHeld)).mono ?_; rintro _ w9 ⟨rfl, x9⟩
        have X9 : Ext w3 w9 := hx.trans (hHeld.trans x9)
        go_wp2_with fail
        go_roundw
        case rel => exact ⟨j + 1, by go_num, by omega, X9⟩
        case measure => simp [intOf]; omega
      exact AllReadyH.nil
    · obtain rfl : j = L0 := by omega
      go_wp2_with fail
      go_ret
      exact ⟨rfl, (by repeat (first | exact Ext.refl _ | assumption | refine Ext.drew ?_ | refine Ext.drewN ?_ _ | refine Ext.alloc ?_ _ | refine Ext.trans ?_ (by assumption)))⟩
end Go.Proofs.YthomeenmcajmdaaGreatDoor
