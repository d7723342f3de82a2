import Derived.Test.YthomeenmcajmdaaGreatDoorBun29
import Derived.Test.YthomeenmcajmdaaGreatDoorBun30
import Derived.Test.YthomeenmcajmdaaGreatDoorBun06
import Derived.Test.YthomeenmcajmdaaGreatDoorBun03
import Derived.Test.YthomeenmcajmdaaGreatDoorBun21
import Derived.Test.YthomeenmcajmdaaGreatDoorBun22
import Derived.Deep.RegionLaw
import Derived.Deep.RegionHeld3
namespace Go.Proofs.YthomeenmcajmdaaGreatDoor.taskScaled
open Go.ChangeShapes Go.WideShapes Go.ChangeAt Go.RowKit Go.Maps
theorem zero_no : taskB ⟨0, 0, [], 0, 0, [], 0, 0, [], []⟩ = false := by simp [taskB, matB]
theorem solving_right {p : Int} {m n : Nat} {xs bs : List Int} (h0 : 0 ≤ p) (hlt : p < 16777216) (he : bErr p = 0) (ok : MatOk p m n xs) (hb : bs.length = m) (hr : Rng p bs) : taskB ⟨7, p, bList p, m, n, xs, 0, 0, [], bs⟩ = true := by
  have hs : showsB (bList p) p = true := bList_show (fun _ => bf_of h0 hlt he) he
  unfold taskB
  have h1 : matB p m n xs = true := ok.b
  have h2 : fitsB ⟨7, p, bList p, m, n, xs, 0, 0, [], bs⟩ = true := by
    show (decide ((bs.length : Int) = m) && hasB p bs) = true
    rw [decide_eq_true (by omega), hr.has ok.hp]; rfl
  have h3 : spareB ⟨7, p, bList p, m, n, xs, 0, 0, [], bs⟩ = true := by simp [spareB]
  rw [h2, h3]
  show (matB p m n xs && (true && (true && showsB (bList p) p))) = true
  rw [h1, hs]; rfl
theorem ansP7 {p : Int} {m n : Nat} {xs bs : List Int} {l : List Prf} : ansT ⟨7, p, l, m, n, xs, 0, 0, [], bs⟩ = [bitZ (solvB p m n xs bs)] := by
  unfold ansT
  rw [if_neg (show ¬ (7 : Int) = 1 by decide), if_neg (show ¬ (7 : Int) = 2 by decide), if_neg (show ¬ (7 : Int) = 3 by decide), if_neg (show ¬ (7 : Int) = 4 by decide), if_neg (show ¬ (7 : Int) = 5 by decide), if_neg (show ¬ (7 : Int) = 6 by decide)]
  rfl
set_option maxRecDepth 100000 in
set_option maxHeartbeats 4000000 in
theorem walk (p0 r c : Int) (u : Value) (xs : List Int) (row nn : Int) (v : Value) (ys : List Int) (w : World) (hp0 : (Lit.int .u64 p0).wf = true) (_hr : (Lit.int .i64 r).wf = true) (_hc : (Lit.int .i64 c).wf = true) (hu : Ints .u64 w u xs) (hx0 : ∀ x ∈ xs, (Lit.int .u64 x).wf = true)
    (hrow : (Lit.int .u8 row).wf = true) (hnn : (Lit.int .u64 nn).wf = true) (hv : Ints .u64 w v ys) (hy0 : ∀ x ∈ ys, (Lit.int .u64 x).wf = true) (hT : Tab w) :
    Calls Tryz.prog 6 #[.int .u64 p0, .agg #[.int .i64 r, .int .i64 c, u], .int .u8 row, .int .u64 nn, v] w (Ret (.bool true) w) := by
  have hx : U64s xs := fun x hx => u64_wf (hx0 x hx)
  have hy : U64s ys := fun x hx => u64_wf (hy0 x hx)
  have hp1 := u64_wf hp0
  have hn1 := u64_wf hnn
  have hr1 : 0 ≤ row ∧ row ≤ 255 := by
    simp [Lit.wf, IntKind.min, IntKind.max, IntKind.bits, IntKind.signed] at hrow; omega
  have HT := hid hT
  obtain ⟨p, ep⟩ : ∃ p, p0 % 16777216 = p := ⟨_, rfl⟩
  have hp2 : 0 ≤ p ∧ p < 16777216 := by omega
  have Hu := hid hu; have Hx := hid hx; have Hv := hid hv; have Hy := hid hy
  obtain ⟨a, cap, rfl, k1, k2, k3⟩ := hu
  obtain ⟨a', cap', rfl, -, -, -⟩ := hv
  have K3 := hid k3
  clear hx hx0 hy hy0 hT hp0 hrow hnn k3
  by_cases hE : plE 3 p r c xs ≠ 0
  · obtain ⟨E, hE2⟩ : ∃ E, plE 3 p r c xs = E := ⟨_, rfl⟩
    rw [hE2] at hE
    have t4 : (E != 0) = true := by simpa using hE
    have CP := hid fun (W : World) (hW : Ext w W) => tkPlain_no 3 p r c _ xs W hp2.1 hp2.2 (Hu.out.ext hW) Hx.out (HT.out.ext hW) hE2 hE
    have HE := hid hE
    clear hE hE2
    go_enter Tryz.func6, Tryz.ntmps6
    have z1 := (Ext.refl w).alloc (.cells #[.int .i64 r, .int .i64 c, .slice a xs.length cap] 26)
    have HM := hid (Blk.new w 26 #[.int .i64 r, .int .i64 c, .slice a xs.length cap])
    go_wp2_with fail
    refine (awake16 _ (HT.out.ext z1)).mono ?_
    rintro _ w1 ⟨rfl, x1⟩
    obtain ⟨hm_0, hm_1, hm_2⟩ := (HM.out.ext x1).at3
    go_wp2_with fail
    refine (CP.out _ (z1.trans x1)).mono ?_
    rintro _ w2 ⟨pa2, pc2, ua2, uc2, rfl, hr2, hz2, xw2⟩
    clear hm_0 hm_1 hm_2
    have HR2 := hid hr2; have HZ2 := hid hz2
    clear hr2 hz2
    have z4 := (Ext.refl w2).alloc (.cells #[.int .i64 0, .int .u64 0, .slice pa2 0 pc2, .int .i64 0, .int .i64 0, .slice ua2 0 uc2, .int .i64 0, .int .i64 0, .slice none 0 0, .slice none 0 0] 28)
    have HD := hid (Blk.new w2 28 #[.int .i64 0, .int .u64 0, .slice pa2 0 pc2, .int .i64 0, .int .i64 0, .slice ua2 0 uc2, .int .i64 0, .int .i64 0, .slice none 0 0, .slice none 0 0])
    obtain ⟨hm_0, hm_1, hm_2⟩ := (HM.out.ext (x1.trans (xw2.trans z4))).at3
    go_wp2_with fail
    go_ret
    exact ⟨rfl, (z1.trans (x1.trans (xw2.trans z4)))⟩
  have hE : plE 3 p r c xs = 0 := Classical.byContradiction hE
  obtain ⟨L0, hL0⟩ : ∃ L0, (bList p).length = L0 := ⟨_, rfl⟩
  obtain ⟨e1, e2, -⟩ := (plE_iff hp2.1 hp2.2).1 hE
  obtain ⟨m, n, em0, en0, ok0, hf0⟩ := task_ok (plT_z hp2.1 hp2.2 Hx.out (fun _ => bf_of hp2.1 hp2.2 e1)) (plT_right hE)
  have em : r = m := em0
  have en : c = n := en0
  have ok : MatOk p m n xs := ok0
  have hf : Fld p := hf0
  clear em0 en0 ok0 hf0
  subst em; subst en
  have hp3 : 2 ≤ p := (rightB_true ok.hp).1
  have hm := ok.hm; have hn := ok.hn
  have CP3 := hid fun (W : World) (hW : Ext w W) => tkPlain_yes 3 p m n _ xs W hp2.1 hp2.2 (Hu.out.ext hW) Hx.out (HT.out.ext hW) hE hL0 rfl
  by_cases hl : 64 < xs.length
  · have t1 : decide ((64 : Int) < (xs.length : Int)) = true := decide_eq_true (by omega)
    have t2 : decide (64 < xs.length) = true := decide_eq_true hl
    have HL := hid hl
    clear hl hE e1 e2 ok hf hL0
    go_enter Tryz.func6, Tryz.ntmps6
    have z1 := (Ext.refl w).alloc (.cells #[.int .i64 m, .int .i64 n, .slice a xs.length cap] 26)
    have HM := hid (Blk.new w 26 #[.int .i64 m, .int .i64 n, .slice a xs.length cap])
    go_wp2_with fail
    refine (awake16 _ (HT.out.ext z1)).mono ?_
    rintro _ w1 ⟨rfl, x1⟩
    obtain ⟨hm_0, hm_1, hm_2⟩ := (HM.out.ext x1).at3
    go_wp2_with fail
    refine (CP3.out _ (z1.trans x1)).mono ?_
    rintro _ w2 ⟨pa2, pc2, ua2, uc2, rfl, hr2, hz2, xw2⟩
    clear hm_0 hm_1 hm_2
    have HR2 := hid hr2; have HZ2 := hid hz2
    clear hr2 hz2
    have z4 := (Ext.refl w2).alloc (.cells #[.int .i64 3, .int .u64 p, .slice pa2 L0 pc2, .int .i64 m, .int .i64 n, .slice ua2 xs.length uc2, .int .i64 0, .int .i64 0, .slice none 0 0, .slice none 0 0] 28)
    have HR := hid (Blk.new w2 28 #[.int .i64 3, .int .u64 p, .slice pa2 L0 pc2, .int .i64 m, .int .i64 n, .slice ua2 xs.length uc2, .int .i64 0, .int .i64 0, .slice none 0 0, .slice none 0 0])
    obtain ⟨hm_0, hm_1, hm_2⟩ := (HM.out.ext (x1.trans (xw2.trans z4))).at3
    go_wp2_with fail
    go_ret
    exact ⟨rfl, (z1.trans (x1.trans (xw2.trans z4)))⟩
  have t1 : decide ((64 : Int) < (xs.length : Int)) = false := decide_eq_false (by omega)
  have t2 : decide (64 < xs.length) = false := decide_eq_false hl
  have hpn : ¬ p = 0 := by omega
  obtain ⟨c0, hc0⟩ : ∃ c0, nn % p = c0 := ⟨_, rfl⟩
  have hcr : 0 ≤ c0 ∧ c0 < p := hc0 ▸ mod_range nn hp3
  by_cases hcz : c0 = 0
  · have t3 : (c0 == 0) = true := by simpa using hcz
    have HC0 := hid hcz
    clear hl hE e1 e2 ok hf hL0 hcz
    go_enter Tryz.func6, Tryz.ntmps6
    have z1 := (Ext.refl w).alloc (.cells #[.int .i64 m, .int .i64 n, .slice a xs.length cap] 26)
    have HM := hid (Blk.new w 26 #[.int .i64 m, .int .i64 n, .slice a xs.length cap])
    go_wp2_with fail
    refine (awake16 _ (HT.out.ext z1)).mono ?_
    rintro _ w1 ⟨rfl, x1⟩
    obtain ⟨hm_0, hm_1, hm_2⟩ := (HM.out.ext x1).at3
    go_wp2_with fail
    refine (CP3.out _ (z1.trans x1)).mono ?_
    rintro _ w2 ⟨pa2, pc2, ua2, uc2, rfl, hr2, hz2, xw2⟩
    clear hm_0 hm_1 hm_2
    have HR2 := hid hr2; have HZ2 := hid hz2
    clear hr2 hz2
    have z4 := (Ext.refl w2).alloc (.cells #[.int .i64 3, .int .u64 p, .slice pa2 L0 pc2, .int .i64 m, .int .i64 n, .slice ua2 xs.length uc2, .int .i64 0, .int .i64 0, .slice none 0 0, .slice none 0 0] 28)
    have HR := hid (Blk.new w2 28 #[.int .i64 3, .int .u64 p, .slice pa2 L0 pc2, .int .i64 m, .int .i64 n, .slice ua2 xs.length uc2, .int .i64 0, .int .i64 0, .slice none 0 0, .slice none 0 0])
    obtain ⟨hm_0, hm_1, hm_2⟩ := (HM.out.ext (x1.trans (xw2.trans z4))).at3
    go_wp2_with fail
    go_ret
    exact ⟨rfl, (z1.trans (x1.trans (xw2.trans z4)))⟩
  have t3 : (c0 == 0) = false := by simpa using hcz
  obtain ⟨d0, hd0⟩ : ∃ d, c0 * d % p = 1 := (hf.has hp3).2 c0 (by rw [Int.emod_eq_of_lt hcr.1 hcr.2]; exact hcz)
  obtain ⟨K, hK⟩ : ∃ K : Nat, row % (m : Int) = K := ⟨(row % (m : Int)).toNat, by have := Int.emod_nonneg row (show (m : Int) ≠ 0 by omega); omega⟩
  have hKm : K < m := by have := Int.emod_lt_of_pos row (show 0 < (m : Int) by omega); omega
  have hrw : IntKind.i64.wrap row = row := by simp [IntKind.wrap, IntKind.bits, IntKind.signed]; omega
  have htm : row.tmod (m : Int) = K := by rw [Int.tmod_eq_emod_of_nonneg hr1.1]; exact hK
  have hm0 : ¬ (m : Int) = 0 := by omega
  have hxl : 0 < xs.length := by rw [ok.hl]; exact Nat.mul_pos hm.1 hn.1
  obtain ⟨b, off, rfl, hbw, -⟩ := K3.out hxl
  have HXL := hid ok.hl; have HXR := hid ok.hx; have HP := hid ok.hp; have HK := hid hK
  have HE3 := hid hE; have HE1 := hid e1; have HOK := hid ok; have HF := hid hf; have HL0 := hid hL0; have HD0 := hid hd0; have HCZ := hid hcz; have HL64 := hid hl
  obtain ⟨i0, hi, hz0, hz1, hz2⟩ := info_parts info_u64p
  have hcap : xs.length ≤ cap ∧ cap ≤ 9223372036854775807 := ⟨k1, k2⟩
  have CM := hid fun (W : World) (z y : Int) (h1 : 0 ≤ z) (h2 : z < p) (h3 : z * c0 % p = y) => (show Calls Tryz.prog 20 #[.int .u64 p, .int .u64 z, .int .u64 c0] W fun e w' => e = .returned (.int .u64 y) ∧ W = w' from h3 ▸ rMul_all c0.toNat p z c0 W (Nat.le_refl _) HP.out h1 h2 hcr.1 (by omega))
  have htn : nn.tmod p = c0 := by rw [Int.tmod_eq_emod_of_nonneg hn1.1]; exact hc0
  have hl64 : xs.length ≤ 64 := by omega
  clear hE e1 e2 ok hf hL0 hd0 hcz hl hK
  go_enter Tryz.func6, Tryz.ntmps6
  have z1 := (Ext.refl w).alloc (.cells #[.int .i64 m, .int .i64 n, .slice (some ⟨b, off, none⟩) xs.length cap] 26)
  have HM := hid (Blk.new w 26 #[.int .i64 m, .int .i64 n, .slice (some ⟨b, off, none⟩) xs.length cap])
  go_wp2_with fail
  refine (awake16 _ (HT.out.ext z1)).mono ?_
  rintro _ w1 ⟨rfl, x1⟩
  obtain ⟨hm_0, hm_1, hm_2⟩ := (HM.out.ext x1).at3
  go_wp2_with fail
  refine (CP3.out _ (z1.trans x1)).mono ?_
  rintro _ w2 ⟨pa2, pc2, ua2, uc2, rfl, hr2, hz2, xw2⟩
  clear hm_0 hm_1 hm_2
  have HR2 := hid hr2; have HZ2 := hid hz2
  clear hr2 hz2
  obtain ⟨hm_0, hm_1, hm_2⟩ := (HM.out.ext (x1.trans xw2)).at3
  go_upto_region 5 with fail
  have EW0 := hid ((z1.trans (x1.trans xw2)).alloc (.cells #[.int .i64 3, .int .u64 p, .slice pa2 L0 pc2, .int .i64 m, .int .i64 n, .slice ua2 xs.length uc2, .int .i64 0, .int .i64 0, .slice none 0 0, .slice none 0 0] 28))
  have HAW0 := hid ((HM.out.ext (x1.trans xw2)).ext ((Ext.refl _).alloc (.cells #[.int .i64 3, .int .u64 p, .slice pa2 L0 pc2, .int .i64 m, .int .i64 n, .slice ua2 xs.length uc2, .int .i64 0, .int .i64 0, .slice none 0 0, .slice none 0 0] 28)))
  have HBW0 := hid (Blk.new w2 28 #[.int .i64 3, .int .u64 p, .slice pa2 L0 pc2, .int .i64 m, .int .i64 n, .slice ua2 xs.length uc2, .int .i64 0, .int .i64 0, .slice none 0 0, .slice none 0 0])
  have HRW0 := hid (HR2.out.ext ((Ext.refl _).alloc (.cells #[.int .i64 3, .int .u64 p, .slice pa2 L0 pc2, .int .i64 m, .int .i64 n, .slice ua2 xs.length uc2, .int .i64 0, .int .i64 0, .slice none 0 0, .slice none 0 0] 28)))
  obtain ⟨W, hWe⟩ : ∃ W, w2.alloc (.cells #[.int .i64 3, .int .u64 p, .slice pa2 L0 pc2, .int .i64 m, .int .i64 n, .slice ua2 xs.length uc2, .int .i64 0, .int .i64 0, .slice none 0 0, .slice none 0 0] 28) = W := ⟨_, rfl⟩
  rw [hWe] at EW0 HAW0 HBW0 HRW0 ⊢
  have EW : Hid (Ext w W) := EW0; have HAW : Hid (Blk W w.heap.size 26 #[.int .i64 (m : Int), .int .i64 (n : Int), .slice (some ⟨b, off, none⟩) xs.length cap]) := HAW0
  clear hWe EW0 HAW0
  clear hm_0 hm_1 hm_2
  obtain ⟨ha_0, ha_1, ha_2⟩ := HAW.out.at3
  have fs := hid (fun (V : World) (hV : Ext W V) => (HAW.out.ext hV).at3)
  have hXS := hid (Hu.out.ext EW.out)
  have Hown0 := hid (World.ownsRow_lit (base := W.heap.size) (e := 22) (size := 1) W.drew #[] 0 (Nat.le_refl _) (by simp [maxLen]) rfl)
  have Hown2 := hid (show ((W.drew.alloc (.cells #[.int .i64 0, .int .i64 0, .slice none 0 0] 26)).alloc (.cells #[] 22)).ownsRow W.heap.size 22 1 (.slice (some ⟨W.heap.size + 1, 0, none⟩) 0 0) 0 [] from by
    have h := World.ownsRow_lit (base := W.heap.size) (e := 22) (size := 1) (W.drew.alloc (.cells #[.int .i64 0, .int .i64 0, .slice none 0 0] 26)) #[] 0 (by simp) (by simp [maxLen]) rfl
    rwa [alloc_size] at h)
  have hxa : Ext W (W.drew.alloc (.cells #[] 22)) := (Ext.refl W).drew.alloc _
  have hxb : Ext W ((W.drew.alloc (.cells #[] 22)).alloc (.cells #[.int .i64 0, .int .i64 0, .slice none 0 0] 26)) := hxa.alloc _
  have hxc : Ext W (W.drew.alloc (.cells #[.int .i64 0, .int .i64 0, .slice none 0 0] 26)) := (Ext.refl W).drew.alloc _
  have hxd : Ext W ((W.drew.alloc (.cells #[.int .i64 0, .int .i64 0, .slice none 0 0] 26)).alloc (.cells #[] 22)) := hxc.alloc _
  have hBb := hid (Blk.at_ (w := W.drew.alloc (.cells #[] 22)) (t := 26) (cs := #[.int .i64 0, .int .i64 0, .slice none 0 0]) (g := W.heap.size + 1) (by rw [alloc_size]; rfl))
  have hBd := hid ((Blk.at_ (w := W.drew) (t := 26) (cs := #[.int .i64 0, .int .i64 0, .slice none 0 0]) (g := W.heap.size) rfl).ext ((Ext.refl _).alloc (.cells #[] 22)))
  have Hln := hid (show (xs.map (Value.int .u64)).length = xs.length * 1 by simp)
  go_upto_region 8 with fail
  go_cut [14] from 67 to 75 (fun s w' => ∃ h g c : Nat, s = .pointer (some ⟨h, 0, none⟩) ∧ xs.length ≤ c ∧ c ≤ 9223372036854775807 ∧ UndC W w' h g xs.length c m n xs)
  case first =>
    go_region_held3 (fun w' => w'.cell? ⟨w.heap.size, 0, none⟩ = some (.int .i64 (m : Int)) ∧ w'.cell? ⟨w.heap.size, 1, none⟩ = some (.int .i64 (n : Int)) ∧ w'.cell? ⟨w.heap.size, 2, none⟩ = some (.slice (some ⟨b, off, none⟩) xs.length cap)) (first | assumption | (refine fs.out _ ?_; repeat (first | assumption | with_reducible exact Ext.refl _ | with_reducible refine Ext.drew ?_ | with_reducible refine Ext.alloc ?_ _ | with_reducible refine Ext.setCell ?_ (by first | assumption | (simp; done)) _)))
      ((first
        | (refine step_append_at _ rfl (.tmp 71) (.tmp 73) 24 rfl W.heap.size 22 i0 (.int .u64 0) 1 8 Tryz.underlying24 hi hz0 hz1 hz2 rfl (by decide) (.slice (some ⟨W.heap.size, 0, none⟩) 0 0) 0 [] (by simp [Act.eval]) Hown0.out ⟨b, off, none⟩ xs.length cap (xs.map (Value.int .u64)) (by simp [Act.eval]) Hln.out (ints_news (hXS.out.ext hxa)) ints_one (by simp only [maxLen]; omega) (by omega) (by first | (simp; done) | (simp; omega)) ?_
           intro v1 W3 hown1 hgrow1 hat1
           have hx3 : Ext W W3 := hxa.grown hgrow1 (fun k e => by simp [Value.ownBlock] at e; omega)
           have hge : W.heap.size ≤ W3.heap.size := hx3.size
           have hown3 : W3.ownsRow W.heap.size 22 1 v1 xs.length (xs.map (Value.int .u64)) := by simpa using hown1
           obtain ⟨va, vc, rfl, q1, q2, q3, q4⟩ := WRow.of_owns hown3
           obtain ⟨g, rfl, hgW, hrow⟩ := q4 hxl
           clear q3 q4)
        | (refine step_append_at _ rfl (.tmp 71) (.tmp 73) 24 rfl W.heap.size 22 i0 (.int .u64 0) 1 8 Tryz.underlying24 hi hz0 hz1 hz2 rfl (by decide) (.slice (some ⟨W.heap.size, 0, none⟩) 0 0) 0 [] (by simp [Act.eval]) (Hown0.out.alloc _) ⟨b, off, none⟩ xs.length cap (xs.map (Value.int .u64)) (by simp [Act.eval]) Hln.out (ints_news (hXS.out.ext hxb)) ints_one (by simp only [maxLen]; omega) (by omega) (by first | (simp; done) | (simp; omega)) ?_
           intro v1 W3 hown1 hgrow1 hat1
           have hx3 : Ext W W3 := hxb.grown hgrow1 (fun k e => by simp [Value.ownBlock] at e; omega)
           have hge : W.heap.size ≤ W3.heap.size := hx3.size
           have hown3 : W3.ownsRow W.heap.size 22 1 v1 xs.length (xs.map (Value.int .u64)) := by simpa using hown1
           obtain ⟨va, vc, rfl, q1, q2, q3, q4⟩ := WRow.of_owns hown3
           obtain ⟨g, rfl, hgW, hrow⟩ := q4 hxl
           clear q3 q4
           have hbx := hid (show Blk W3 (W.heap.size + 1) 26 #[.int .i64 0, .int .i64 0, .slice none 0 0] from (hBb.out).grown hgrow1 (by simp [Value.ownBlock]))
           obtain ⟨y0, y1, y2⟩ := hbx.out.at3
           have f0 := hbx.out.frozen 0
           have f1 := hbx.out.frozen 1
           have f2 := hbx.out.frozen 2
           have hgne : g ≠ W.heap.size + 1 := by
             rcases ownsRow_blk hown3 hbx.out (by decide) with e | e
             · simp [Value.ownBlock] at e
             · exact fun e2 => e (by simp [Value.ownBlock, e2]))
        | (refine step_append_at _ rfl (.tmp 71) (.tmp 73) 24 rfl W.heap.size 22 i0 (.int .u64 0) 1 8 Tryz.underlying24 hi hz0 hz1 hz2 rfl (by decide) (.slice (some ⟨W.heap.size + 1, 0, none⟩) 0 0) 0 [] (by simp [Act.eval]) Hown2.out ⟨b, off, none⟩ xs.length cap (xs.map (Value.int .u64)) (by simp [Act.eval]) Hln.out (ints_news (hXS.out.ext hxd)) ints_one (by simp only [maxLen]; omega) (by omega) (by first | (simp; done) | (simp; omega)) ?_
           intro v1 W3 hown1 hgrow1 hat1
           have hx3 : Ext W W3 := hxd.grown hgrow1 (fun k e => by simp [Value.ownBlock] at e; omega)
           have hge : W.heap.size ≤ W3.heap.size := hx3.size
           have hown3 : W3.ownsRow W.heap.size 22 1 v1 xs.length (xs.map (Value.int .u64)) := by simpa using hown1
           obtain ⟨va, vc, rfl, q1, q2, q3, q4⟩ := WRow.of_owns hown3
           obtain ⟨g, rfl, hgW, hrow⟩ := q4 hxl
           clear q3 q4
           have hbx := hid (show Blk W3 (W.heap.size) 26 #[.int .i64 0, .int .i64 0, .slice none 0 0] from (hBd.out).grown hgrow1 (by simp [Value.ownBlock]))
           obtain ⟨y0, y1, y2⟩ := hbx.out.at3
           have f0 := hbx.out.frozen 0
           have f1 := hbx.out.frozen 1
           have f2 := hbx.out.frozen 2
           have hgne : g ≠ W.heap.size := by
             rcases ownsRow_blk hown3 hbx.out (by decide) with e | e
             · simp [Value.ownBlock] at e
             · exact fun e2 => e (by simp [Value.ownBlock, e2]))))
    all_goals
      go_wp2_with fail
      go_meet
      first
        | exact ⟨_, _, _, rfl, q1, q2, UndC.born' hrow rfl hx3 hgW⟩
        | exact ⟨_, _, _, rfl, q1, q2, UndC.born hbx.out hrow rfl hx3 hgW (by omega) hgne⟩
  case rest =>
    obtain ⟨hB, g, cc, rfl, q1, q2, hu0⟩ := hcut
    rename World => Wc
    have HU0 := hid hu0
    clear hu0 Hown0 Hown2 hxa hxb hxc hxd hBb hBd Hln ha_0 ha_1 ha_2 fs
    obtain ⟨qn, hqn⟩ : ∃ q, K * n = q := ⟨_, rfl⟩
    have hqi : (K : Int) * (n : Int) = (qn : Int) := by rw [← hqn]; push_cast; rfl
    have hql : qn + n ≤ xs.length := by rw [HXL.out, ← hqn, ← Nat.succ_mul]; exact Nat.mul_le_mul_right _ hKm
    have hqw : IntKind.i64.wrap (qn : Int) = (qn : Int) := IntWalk.i64_in _ (by omega)
    have Hqn := hid hqn
    clear hqn
    go_wp2_with fail
    go_loopw [15] (fun kv wr => ∃ (k : Nat) (l : List Int), kv = .int .i64 k ∧ k ≤ n ∧ Hid (UndC W wr hB g xs.length cc m n l) ∧ Hid (Rng p l) ∧ Hid (∀ a b, a < m → b < n → l.getD (a * n + b) 0 = if a = K ∧ b < k then xs.getD (K * n + b) 0 * c0 % p else xs.getD (a * n + b) 0)) (fun kv _ => n - (intOf kv).toNat)
    case atStart => exact ⟨0, xs, rfl, Nat.zero_le _, HU0, HXR, hid (fun a b _ _ => by rw [if_neg (by omega)])⟩
    case round =>
      obtain ⟨k, l, rfl, hkn, HUl, HRl, HC⟩ := hrel
      rename World => W7
      have x7 := hid HUl.out.ext
      obtain ⟨ha_0, ha_1, ha_2⟩ := (HAW.out.ext x7.out).at3
      obtain ⟨c0', c1', c2'⟩ := HUl.out.box.at3
      by_cases hlt : k < n
      · obtain ⟨t, ht⟩ : ∃ t, qn + k = t := ⟨_, rfl⟩
        have htl : t < xs.length := by omega
        have hti : (qn : Int) + (k : Int) = (t : Int) := by omega
        have htw : IntKind.i64.wrap (t : Int) = (t : Int) := IntWalk.i64_in _ (by omega)
        have hti2 : (t : Int) < (xs.length : Int) := by omega
        have hti0 : (0 : Int) ≤ (t : Int) := by omega
        obtain ⟨gz, fz⟩ := HUl.out.at_ htl
        have hz := HC.out K k hKm hlt
        rw [if_neg (by omega), Hqn.out, ht] at hz
        have hzr := HXR.out.getD hp3 t
        rw [hz] at gz
        obtain ⟨z, ez⟩ : ∃ z, xs.getD t 0 = z := ⟨_, rfl⟩
        rw [ez] at gz hzr
        obtain ⟨y, ey⟩ : ∃ y, z * c0 % p = y := ⟨_, rfl⟩
        have hyr : 0 ≤ y ∧ y < p := ey ▸ mod_range _ hp3
        have Ez := hid ez; have Ey := hid ey; have Ht := hid ht
        have fs7 := hid fun (V : World) (hV : Ext W7 V) => And.intro (HAW.out.ext (x7.out.trans hV)).at3.2.1 (HUl.out.ext' hV).box.at3.2.2
        have fs8 := hid fun (V : World) (hV : Ext W7 V) => And.intro (HAW.out.ext ((x7.out.trans hV).setCell (p := ⟨g, t, none⟩) HUl.out.hg (.int .u64 y))).at3.2.1 ((HUl.out.ext' hV).put htl y).box.at3.2.2
        clear hz ez ey ht
        go_wp2_with fail
        refine wp_region_held_drew (S := fun w' => w'.cell? ⟨w.heap.size, 1, none⟩ = some (.int .i64 (n : Int)) ∧ w'.cell? ⟨hB, 2, none⟩ = some (.slice (some ⟨g, 0, none⟩) xs.length cc)) (by kernel_rfl) (fs7.out _ ((Ext.refl W7).drew)) (fun hHeld => ?_)
        refine wpAnyH_take (i := 0) (v := .pointer (some ⟨hB, 2, none⟩)) rfl (by kernel_rfl) (by kernel_rfl) (by kernel_rfl) (fun _ _ _ h => h) (Or.inl ⟨by rfl, ?_⟩) hHeld ?_
        · intro W' hSw
          obtain ⟨s1, s2⟩ := hSw
          go_simp
        refine wpAnyH_take (i := 1) (v := .slice (some ⟨g, 0, none⟩) xs.length cc) rfl (by kernel_rfl) (by kernel_rfl) (by kernel_rfl) (fun _ _ _ h => h) (Or.inl ⟨by rfl, ?_⟩) hHeld ?_
        · intro W' hSw
          obtain ⟨s1, s2⟩ := hSw
          go_simp
        refine wpAnyH_take (i := 2) (v := .int .i64 (K : Int)) rfl (by kernel_rfl) (by kernel_rfl) (by kernel_rfl) (fun _ _ _ h => h) (Or.inl ⟨by rfl, ?_⟩) hHeld ?_
        · intro W' hSw
          obtain ⟨s1, s2⟩ := hSw
          go_simp
        refine wpAnyH_take (i := 3) (v := .pointer (some ⟨w.heap.size, 1, none⟩)) rfl (by kernel_rfl) (by kernel_rfl) (by kernel_rfl) (fun _ _ _ h => h) (Or.inl ⟨by rfl, ?_⟩) hHeld ?_
        · intro W' hSw
          obtain ⟨s1, s2⟩ := hSw
          go_simp
        refine wpAnyH_take (i := 4) (v := .int .i64 (n : Int)) rfl (by kernel_rfl) (by kernel_rfl) (by kernel_rfl) (fun _ _ _ h => h) (Or.inl ⟨by rfl, ?_⟩) hHeld ?_
        · intro W' hSw
          obtain ⟨s1, s2⟩ := hSw
          go_simp
        refine wpAnyH_take (i := 5) (v := .int .i64 (qn : Int)) rfl (by kernel_rfl) (by kernel_rfl) (by kernel_rfl) (fun _ _ _ h => h) (Or.inl ⟨by rfl, ?_⟩) hHeld ?_
        · intro W' hSw
          obtain ⟨s1, s2⟩ := hSw
          go_simp
        refine wpAnyH_take (i := 6) (v := .int .i64 (k : Int)) rfl (by kernel_rfl) (by kernel_rfl) (by kernel_rfl) (fun _ _ _ h => h) (Or.inl ⟨by rfl, ?_⟩) hHeld ?_
        · intro W' hSw
          obtain ⟨s1, s2⟩ := hSw
          go_simp
        refine wpAnyH_take (i := 7) (v := .int .i64 (t : Int)) rfl (by kernel_rfl) (by kernel_rfl) (by kernel_rfl) (fun _ _ _ h => h) (Or.inl ⟨by rfl, ?_⟩) hHeld ?_
        · intro W' hSw
          obtain ⟨s1, s2⟩ := hSw
          go_simp
        refine wpAnyH_take (i := 8) (v := .int .u64 p) rfl (by kernel_rfl) (by kernel_rfl) (by kernel_rfl) (fun _ _ _ h => h) (Or.inl ⟨by rfl, ?_⟩) hHeld ?_
        · intro W' hSw
          obtain ⟨s1, s2⟩ := hSw
          go_simp
        refine wpAnyH_take (i := 9) (v := .pointer (some ⟨hB, 2, none⟩)) rfl (by kernel_rfl) (by kernel_rfl) (by kernel_rfl) (fun _ _ _ h => h) (Or.inl ⟨by rfl, ?_⟩) hHeld ?_
        · intro W' hSw
          obtain ⟨s1, s2⟩ := hSw
          go_simp
        refine wpAnyH_take (i := 10) (v := .slice (some ⟨g, 0, none⟩) xs.length cc) rfl (by kernel_rfl) (by kernel_rfl) (by kernel_rfl) (fun _ _ _ h => h) (Or.inl ⟨by rfl, ?_⟩) hHeld ?_
        · intro W' hSw
          obtain ⟨s1, s2⟩ := hSw
          go_simp
        refine wpAnyH_take (i := 11) (v := .int .i64 (K : Int)) rfl (by kernel_rfl) (by kernel_rfl) (by kernel_rfl) (fun _ _ _ h => h) (Or.inl ⟨by rfl, ?_⟩) hHeld ?_
        · intro W' hSw
          obtain ⟨s1, s2⟩ := hSw
          go_simp
        refine wpAnyH_take (i := 12) (v := .pointer (some ⟨w.heap.size, 1, none⟩)) rfl (by kernel_rfl) (by kernel_rfl) (by kernel_rfl) (fun _ _ _ h => h) (Or.inl ⟨by rfl, ?_⟩) hHeld ?_
        · intro W' hSw
          obtain ⟨s1, s2⟩ := hSw
          go_simp
        refine wpAnyH_take (i := 13) (v := .int .i64 (n : Int)) rfl (by kernel_rfl) (by kernel_rfl) (by kernel_rfl) (fun _ _ _ h => h) (Or.inl ⟨by rfl, ?_⟩) hHeld ?_
        · intro W' hSw
          obtain ⟨s1, s2⟩ := hSw
          go_simp
        refine wpAnyH_take (i := 14) (v := .int .i64 (qn : Int)) rfl (by kernel_rfl) (by kernel_rfl) (by kernel_rfl) (fun _ _ _ h => h) (Or.inl ⟨by rfl, ?_⟩) hHeld ?_
        · intro W' hSw
          obtain ⟨s1, s2⟩ := hSw
          go_simp
        refine wpAnyH_take (i := 15) (v := .int .i64 (k : Int)) rfl (by kernel_rfl) (by kernel_rfl) (by kernel_rfl) (fun _ _ _ h => h) (Or.inl ⟨by rfl, ?_⟩) hHeld ?_
        · intro W' hSw
          obtain ⟨s1, s2⟩ := hSw
          go_simp
        refine wpAnyH_take (i := 16) (v := .int .i64 (t : Int)) rfl (by kernel_rfl) (by kernel_rfl) (by kernel_rfl) (fun _ _ _ h => h) (Or.inl ⟨by rfl, ?_⟩) hHeld ?_
        · intro W' hSw
          obtain ⟨s1, s2⟩ := hSw
          go_simp
        refine wpAnyH_take (i := 17) (v := .pointer (some ⟨g, t, none⟩)) rfl (by kernel_rfl) (by kernel_rfl) (by kernel_rfl) (fun _ _ _ h => h) (Or.inl ⟨by rfl, ?_⟩) hHeld ?_
        · intro W' hSw
          obtain ⟨s1, s2⟩ := hSw
          go_simp
        refine wpAnyH_take (i := 19) (v := .int .u64 nn) rfl (by kernel_rfl) (by kernel_rfl) (by kernel_rfl) (fun _ _ _ h => h) (Or.inl ⟨by rfl, ?_⟩) hHeld ?_
        · intro W' hSw
          obtain ⟨s1, s2⟩ := hSw
          go_simp
        refine wpAnyH_take (i := 20) (v := .int .u64 p) rfl (by kernel_rfl) (by kernel_rfl) (by kernel_rfl) (fun _ _ _ h => h) (Or.inl ⟨by rfl, ?_⟩) hHeld ?_
        · intro W' hSw
          obtain ⟨s1, s2⟩ := hSw
          go_simp
        refine wpAnyH_take (i := 21) (v := .int .u64 c0) rfl (by kernel_rfl) (by kernel_rfl) (by kernel_rfl) (fun _ _ _ h => h) (Or.inl ⟨by rfl, ?_⟩) hHeld ?_
        · intro W' hSw
          obtain ⟨s1, s2⟩ := hSw
          go_simp
        refine held_step 18 (by kernel_rfl) rfl (fun K hK => ?_)
        go_simp
        refine hK.out _ _ hHeld (fun hHeld => ?_)
        clear hK K
        refine held_step 22 (by kernel_rfl) rfl (fun K hK => ?_)
        go_simp
        go_wp2_with fail
        refine (CM.out _ z y hzr.1 hzr.2 Ey.out).mono ?_
        rintro _ W5 ⟨rfl, x5⟩
        have x57 : Ext W7 W5 := x5 ▸ (Ext.refl W7).drew
        obtain ⟨d5, f5⟩ := (HUl.out.ext' x57).at_ htl
        clear x5
        go_wp2_with fail
        refine hK.out _ _ (fs7.out _ x57) (fun hHeld => ?_)
        clear hK K
        refine wpAnyH_take (i := 23) (v := .pointer (some ⟨g, t, none⟩)) rfl (by kernel_rfl) (by kernel_rfl) (by kernel_rfl) (fun _ _ _ h => h) (Or.inl ⟨by rfl, ?_⟩) hHeld ?_
        · intro W' hSw
          obtain ⟨s1, s2⟩ := hSw
          go_simp
        refine held_step 24 (by kernel_rfl) rfl (fun K hK => ?_)
        go_simp
        refine hK.out _ _ (fs8.out _ x57) (fun hHeld => ?_)
        clear hK K
        refine wpAnyH_done (by kernel_rfl) ?_ _
        all_goals
          go_wp2_with fail
          go_roundw
          case rel =>
            refine ⟨k + 1, l.set t y, by go_num, by omega, hid ((HUl.out.ext' x57).put htl y), hid (Rng.set' HRl.out t hyr.1 hyr.2), hid (fun a b ha hb => ?_)⟩
            rw [← Ht.out, ← Hqn.out, put_at y hlt hb (by rw [HUl.out.len, Hqn.out, Ht.out]; exact htl)]
            by_cases e : a = K ∧ b = k
            · rw [if_pos e, if_pos ⟨e.1, by omega⟩, e.2, Hqn.out, Ht.out, Ez.out, Ey.out]
            · rw [if_neg e, HC.out a b ha hb]
              by_cases e2 : a = K ∧ b < k
              · rw [if_pos e2, if_pos ⟨e2.1, by omega⟩]
              · rw [if_neg e2, if_neg (fun h => by omega)]
          case measure => simp [intOf]; omega
      · obtain rfl : n = k := by omega
        have hsc : Scaled p m n K c0 xs l := fun a b ha hb => by
          rw [HC.out a b ha hb]
          by_cases e : a = K
          · rw [if_pos ⟨e, hb⟩, if_pos e]
          · rw [if_neg (fun h => e h.1), if_neg e]
        have hll : l.length = xs.length := HUl.out.len
        have okl : MatOk p m n l := ⟨HP.out, HRl.out, hm, hn, by rw [hll, HXL.out]⟩
        have Hs := hid (show Ints .u64 W7 (.slice (some ⟨g, 0, none⟩) xs.length cc) l from HUl.out.row.ints' HUl.out.len q1 q2)
        obtain ⟨P, hP⟩ : ∃ P, profZ p m n xs = P := ⟨_, rfl⟩
        have hP2 : profZ p m n l = P := (prof_scaled hp3 HF.out HXR.out HRl.out HXL.out okl.hl HD0.out hsc).trans hP
        have hE4 : plE 4 p m n xs = 0 := (plE_iff hp2.1 hp2.2).2 ⟨HE1.out, HOK.out.b, rfl⟩
        have hF4 : plE 4 p m n l = 0 := (plE_iff hp2.1 hp2.2).2 ⟨HE1.out, okl.b, rfl⟩
        have CM4 := hid fun (V : World) (hV : Ext w V) => tkPlain_yes 4 p m n _ xs V hp2.1 hp2.2 (Hu.out.ext hV) Hx.out (HT.out.ext hV) hE4 HL0.out rfl
        have CS4 := hid fun (V : World) (h7 : Ext W7 V) (hV : Ext w V) => tkPlain_yes 4 p m n _ l V hp2.1 hp2.2 (Hs.out.ext h7) okl.u64 (HT.out.ext hV) hF4 HL0.out hll
        have CA4 := hid fun (V : World) (pa : Option Addr) (pc : Nat) (ua : Option Addr) (uc : Nat) (h : TkR V ⟨4, p, bList p, m, n, xs, 0, 0, [], []⟩ (.slice pa L0 pc) (.slice ua xs.length uc) (.slice none 0 0) (.slice none 0 0)) (hz : TkZ ⟨4, p, bList p, m, n, xs, 0, 0, [], []⟩) => tkAns h hz (ansE_yes (plT_right hE4)) ((ansL_yes (plT_right hE4)).trans ((ansP4 rfl rfl).trans hP))
        have CB4 := hid fun (V : World) (pa : Option Addr) (pc : Nat) (ua : Option Addr) (uc : Nat) (h : TkR V ⟨4, p, bList p, m, n, l, 0, 0, [], []⟩ (.slice pa L0 pc) (.slice ua xs.length uc) (.slice none 0 0) (.slice none 0 0)) (hz : TkZ ⟨4, p, bList p, m, n, l, 0, 0, [], []⟩) => tkAns h hz (ansE_yes (plT_right hF4)) ((ansL_yes (plT_right hF4)).trans ((ansP4 rfl rfl).trans hP2))
        have CZ := hid fun (V : World) (pa : Option Addr) (pc : Nat) (ua : Option Addr) (uc : Nat) (h : TkR V ⟨0, 0, [], 0, 0, [], 0, 0, [], []⟩ (.slice pa 0 pc) (.slice ua 0 uc) (.slice none 0 0) (.slice none 0 0)) (hz : TkZ ⟨0, 0, [], 0, 0, [], 0, 0, [], []⟩) => tkAns h hz (ansE_no zero_no) (ansL_no zero_no)
        have hS1 := hid fun (V : World) => Ints.lit (k := .u64) (w := V) (t := 22) [1] (by decide) rfl
        have HLL := hid hll; have HOKL := hid okl; have HSC := hid hsc
        clear hsc hll hP hP2 hE4 hF4 okl
        by_cases hmn : m = n
        · subst hmn
          have hE2 : plE 2 p m m xs = 0 := (plE_iff hp2.1 hp2.2).2 ⟨HE1.out, HOK.out.b, by simp [plainB]⟩
          have hF2 : plE 2 p m m l = 0 := (plE_iff hp2.1 hp2.2).2 ⟨HE1.out, HOKL.out.b, by simp [plainB]⟩
          have hE5 : plE 5 p m m xs = 0 := (plE_iff hp2.1 hp2.2).2 ⟨HE1.out, HOK.out.b, by simp [plainB]⟩
          have hF5 : plE 5 p m m l = 0 := (plE_iff hp2.1 hp2.2).2 ⟨HE1.out, HOKL.out.b, by simp [plainB]⟩
          obtain ⟨D, hD⟩ : ∃ D, detF m (atF m xs) % p = D := ⟨_, rfl⟩
          have hDr := mod_range (detF m (atF m xs)) hp3
          rw [hD] at hDr
          obtain ⟨D2, hD2⟩ : ∃ D2, D * c0 % p = D2 := ⟨_, rfl⟩
          have hDl : detF m (atF m l) % p = D2 := by rw [det_scaled (xs := xs) (i := K) (c := c0) hKm HSC.out, hD, hD2]
          obtain ⟨B, hB⟩ : ∃ B, bitZ (D == 0) = B := ⟨_, rfl⟩
          have hB2 : bitZ (D2 == 0) = B := by
            rw [← hB]
            congr 1
            rw [Bool.eq_iff_iff, beq_iff_eq, beq_iff_eq]
            constructor
            · intro h0
              have h1 : D2 * d0 % p = D := by
                rw [← hD2, Int.mul_emod, Int.emod_emod, ← Int.mul_emod, Int.mul_assoc, ← mm_r, HD0.out, Int.mul_one, Int.emod_eq_of_lt hDr.1 hDr.2]
              rw [h0, Int.zero_mul, Int.zero_emod] at h1
              exact h1.symm
            · intro h0
              rw [← hD2, h0, Int.zero_mul, Int.zero_emod]
          have CM2 := hid fun (V : World) (hV : Ext w V) => tkPlain_yes 2 p m m _ xs V hp2.1 hp2.2 (Hu.out.ext hV) Hx.out (HT.out.ext hV) hE2 HL0.out rfl
          have CS2 := hid fun (V : World) (h7 : Ext W7 V) (hV : Ext w V) => tkPlain_yes 2 p m m _ l V hp2.1 hp2.2 (Hs.out.ext h7) HOKL.out.u64 (HT.out.ext hV) hF2 HL0.out HLL.out
          have CM5 := hid fun (V : World) (hV : Ext w V) => tkPlain_yes 5 p m m _ xs V hp2.1 hp2.2 (Hu.out.ext hV) Hx.out (HT.out.ext hV) hE5 HL0.out rfl
          have CS5 := hid fun (V : World) (h7 : Ext W7 V) (hV : Ext w V) => tkPlain_yes 5 p m m _ l V hp2.1 hp2.2 (Hs.out.ext h7) HOKL.out.u64 (HT.out.ext hV) hF5 HL0.out HLL.out
          have CA2 := hid fun (V : World) (pa : Option Addr) (pc : Nat) (ua : Option Addr) (uc : Nat) (h : TkR V ⟨2, p, bList p, m, m, xs, 0, 0, [], []⟩ (.slice pa L0 pc) (.slice ua xs.length uc) (.slice none 0 0) (.slice none 0 0)) (hz : TkZ ⟨2, p, bList p, m, m, xs, 0, 0, [], []⟩) => tkAns h hz (ansE_yes (plT_right hE2)) ((ansL_yes (plT_right hE2)).trans ((ansP2 rfl).trans (by rw [hD, hB])))
          have CB2 := hid fun (V : World) (pa : Option Addr) (pc : Nat) (ua : Option Addr) (uc : Nat) (h : TkR V ⟨2, p, bList p, m, m, l, 0, 0, [], []⟩ (.slice pa L0 pc) (.slice ua xs.length uc) (.slice none 0 0) (.slice none 0 0)) (hz : TkZ ⟨2, p, bList p, m, m, l, 0, 0, [], []⟩) => tkAns h hz (ansE_yes (plT_right hF2)) ((ansL_yes (plT_right hF2)).trans ((ansP2 rfl).trans (by rw [hDl, hB2])))
          have CA5 := hid fun (V : World) (pa : Option Addr) (pc : Nat) (ua : Option Addr) (uc : Nat) (h : TkR V ⟨5, p, bList p, m, m, xs, 0, 0, [], []⟩ (.slice pa L0 pc) (.slice ua xs.length uc) (.slice none 0 0) (.slice none 0 0)) (hz : TkZ ⟨5, p, bList p, m, m, xs, 0, 0, [], []⟩) => tkAns h hz (ansE_yes (plT_right hE5)) ((ansL_yes (plT_right hE5)).trans ((ansP5 rfl).trans (by rw [hD])))
          have CB5 := hid fun (V : World) (pa : Option Addr) (pc : Nat) (ua : Option Addr) (uc : Nat) (h : TkR V ⟨5, p, bList p, m, m, l, 0, 0, [], []⟩ (.slice pa L0 pc) (.slice ua xs.length uc) (.slice none 0 0) (.slice none 0 0)) (hz : TkZ ⟨5, p, bList p, m, m, l, 0, 0, [], []⟩) => tkAns h hz (ansE_yes (plT_right hF5)) ((ansL_yes (plT_right hF5)).trans ((ansP5 rfl).trans (by rw [hDl])))
          have HD2 := hid hD2
          have hDD : (D2 != D2) = false := by simp
          clear hE2 hF2 hE5 hF5 hD hDl hB hB2 hD2
          go_wp2_with fail
          clear ha_0 ha_1 ha_2 c0' c1' c2'
          go_loopw [16] (fun iv wr => ∃ j : Nat, iv = .int .i64 j ∧ j ≤ 2 ∧ Ext W7 wr) (fun iv _ => 2 - (intOf iv).toNat)
          case atStart => exact ⟨0, rfl, by omega, Ext.refl _⟩
          case round =>
            obtain ⟨j, rfl, hj, hx⟩ := hrel
            rcases (by omega : j = 0 ∨ j = 1 ∨ j = 2) with rfl | rfl | rfl
            · clear hj
              have HM := hid (HAW.out.ext (x7.out.trans hx)); have HS := hid (HUl.out.box.ext hx)
              obtain ⟨hm_0, hm_1, hm_2⟩ := HM.out.at3
              go_wp2_with fail
              refine (CM4.out _ ((EW.out.trans (x7.out.trans hx)).trans (Ext.refl _))).mono ?_
              rintro _ w21 ⟨pa21, pc21, ua21, uc21, rfl, hr21, hz21, xw21⟩
              clear hm_0 hm_1 hm_2
              have HR21 := hid hr21; have HZ21 := hid hz21
              clear hr21 hz21
              have z2 := (Ext.refl w21).alloc (.cells #[.int .i64 4, .int .u64 p, .slice pa21 L0 pc21, .int .i64 m, .int .i64 m, .slice ua21 xs.length uc21, .int .i64 0, .int .i64 0, .slice none 0 0, .slice none 0 0] 28)
              have HA1 := hid (Blk.new w21 28 #[.int .i64 4, .int .u64 p, .slice pa21 L0 pc21, .int .i64 m, .int .i64 m, .slice ua21 xs.length uc21, .int .i64 0, .int .i64 0, .slice none 0 0, .slice none 0 0])
              obtain ⟨hs_0, hs_1, hs_2⟩ := (HS.out.ext (xw21.trans z2)).at3
              go_wp2_with fail
              refine (CS4.out _ (hx.trans (xw21.trans z2)) ((EW.out.trans (x7.out.trans hx)).trans (xw21.trans z2))).mono ?_
              rintro _ w22 ⟨pa22, pc22, ua22, uc22, rfl, hr22, hz22, xw22⟩
              clear hs_0 hs_1 hs_2
              have HR22 := hid hr22; have HZ22 := hid hz22
              clear hr22 hz22
              have z4 := (Ext.refl w22).alloc (.cells #[.int .i64 4, .int .u64 p, .slice pa22 L0 pc22, .int .i64 m, .int .i64 m, .slice ua22 xs.length uc22, .int .i64 0, .int .i64 0, .slice none 0 0, .slice none 0 0] 28)
              have HA2 := hid (Blk.new w22 28 #[.int .i64 4, .int .u64 p, .slice pa22 L0 pc22, .int .i64 m, .int .i64 m, .slice ua22 xs.length uc22, .int .i64 0, .int .i64 0, .slice none 0 0, .slice none 0 0])
              obtain ⟨ha1_0, ha1_1, ha1_2, ha1_3, ha1_4, ha1_5, ha1_6, ha1_7, ha1_8, ha1_9⟩ := (HA1.out.ext (xw22.trans z4)).at10
              go_wp2_with fail
              refine (CA4.out _ _ _ _ _ (HR21.out.ext (z2.trans (xw22.trans z4))) HZ21.out).mono ?_
              rintro _ w23 ⟨v23, rfl, hv23, xw23⟩
              clear ha1_0 ha1_1 ha1_2 ha1_3 ha1_4 ha1_5 ha1_6 ha1_7 ha1_8 ha1_9
              have HV23 := hid hv23
              obtain ⟨va23, vc23, rfl, -, -, -⟩ := hv23
              obtain ⟨ha2_0, ha2_1, ha2_2, ha2_3, ha2_4, ha2_5, ha2_6, ha2_7, ha2_8, ha2_9⟩ := (HA2.out.ext xw23).at10
              go_wp2_with fail
              refine (CB4.out _ _ _ _ _ (HR22.out.ext (z4.trans xw23)) HZ22.out).mono ?_
              rintro _ w24 ⟨v24, rfl, hv24, xw24⟩
              clear ha2_0 ha2_1 ha2_2 ha2_3 ha2_4 ha2_5 ha2_6 ha2_7 ha2_8 ha2_9
              have HV24 := hid hv24
              obtain ⟨va24, vc24, rfl, -, -, -⟩ := hv24
              go_wp2_with fail
              refine (same_yes _ _ P _ (HV23.out.ext xw24) HV24.out).mono ?_
              rintro _ w25 ⟨rfl, x25⟩
              go_wp2_with fail
              go_roundw
              case rel => exact ⟨1, by go_num, by omega, (hx.trans (xw21.trans (z2.trans (xw22.trans (z4.trans (xw23.trans (xw24.trans x25)))))))⟩
              case measure => simp [intOf]
            · clear hj
              have HM := hid (HAW.out.ext (x7.out.trans hx)); have HS := hid (HUl.out.box.ext hx)
              obtain ⟨hm_0, hm_1, hm_2⟩ := HM.out.at3
              go_wp2_with fail
              refine (CM2.out _ ((EW.out.trans (x7.out.trans hx)).trans (Ext.refl _))).mono ?_
              rintro _ w21 ⟨pa21, pc21, ua21, uc21, rfl, hr21, hz21, xw21⟩
              clear hm_0 hm_1 hm_2
              have HR21 := hid hr21; have HZ21 := hid hz21
              clear hr21 hz21
              have z2 := (Ext.refl w21).alloc (.cells #[.int .i64 2, .int .u64 p, .slice pa21 L0 pc21, .int .i64 m, .int .i64 m, .slice ua21 xs.length uc21, .int .i64 0, .int .i64 0, .slice none 0 0, .slice none 0 0] 28)
              have HA1 := hid (Blk.new w21 28 #[.int .i64 2, .int .u64 p, .slice pa21 L0 pc21, .int .i64 m, .int .i64 m, .slice ua21 xs.length uc21, .int .i64 0, .int .i64 0, .slice none 0 0, .slice none 0 0])
              obtain ⟨hs_0, hs_1, hs_2⟩ := (HS.out.ext (xw21.trans z2)).at3
              go_wp2_with fail
              refine (CS2.out _ (hx.trans (xw21.trans z2)) ((EW.out.trans (x7.out.trans hx)).trans (xw21.trans z2))).mono ?_
              rintro _ w22 ⟨pa22, pc22, ua22, uc22, rfl, hr22, hz22, xw22⟩
              clear hs_0 hs_1 hs_2
              have HR22 := hid hr22; have HZ22 := hid hz22
              clear hr22 hz22
              have z4 := (Ext.refl w22).alloc (.cells #[.int .i64 2, .int .u64 p, .slice pa22 L0 pc22, .int .i64 m, .int .i64 m, .slice ua22 xs.length uc22, .int .i64 0, .int .i64 0, .slice none 0 0, .slice none 0 0] 28)
              have HA2 := hid (Blk.new w22 28 #[.int .i64 2, .int .u64 p, .slice pa22 L0 pc22, .int .i64 m, .int .i64 m, .slice ua22 xs.length uc22, .int .i64 0, .int .i64 0, .slice none 0 0, .slice none 0 0])
              obtain ⟨ha1_0, ha1_1, ha1_2, ha1_3, ha1_4, ha1_5, ha1_6, ha1_7, ha1_8, ha1_9⟩ := (HA1.out.ext (xw22.trans z4)).at10
              go_wp2_with fail
              refine (CA2.out _ _ _ _ _ (HR21.out.ext (z2.trans (xw22.trans z4))) HZ21.out).mono ?_
              rintro _ w23 ⟨v23, rfl, hv23, xw23⟩
              clear ha1_0 ha1_1 ha1_2 ha1_3 ha1_4 ha1_5 ha1_6 ha1_7 ha1_8 ha1_9
              have HV23 := hid hv23
              obtain ⟨va23, vc23, rfl, -, -, -⟩ := hv23
              obtain ⟨ha2_0, ha2_1, ha2_2, ha2_3, ha2_4, ha2_5, ha2_6, ha2_7, ha2_8, ha2_9⟩ := (HA2.out.ext xw23).at10
              go_wp2_with fail
              refine (CB2.out _ _ _ _ _ (HR22.out.ext (z4.trans xw23)) HZ22.out).mono ?_
              rintro _ w24 ⟨v24, rfl, hv24, xw24⟩
              clear ha2_0 ha2_1 ha2_2 ha2_3 ha2_4 ha2_5 ha2_6 ha2_7 ha2_8 ha2_9
              have HV24 := hid hv24
              obtain ⟨va24, vc24, rfl, -, -, -⟩ := hv24
              go_wp2_with fail
              refine (same_yes _ _ [B] _ (HV23.out.ext xw24) HV24.out).mono ?_
              rintro _ w25 ⟨rfl, x25⟩
              go_wp2_with fail
              go_roundw
              case rel => exact ⟨2, by go_num, by omega, (hx.trans (xw21.trans (z2.trans (xw22.trans (z4.trans (xw23.trans (xw24.trans x25)))))))⟩
              case measure => simp [intOf]
            · clear hj
              have HM := hid (HAW.out.ext (x7.out.trans hx)); have HS := hid (HUl.out.box.ext hx)
              obtain ⟨hm_0, hm_1, hm_2⟩ := HM.out.at3
              go_wp2_with fail
              refine (CM5.out _ ((EW.out.trans (x7.out.trans hx)).trans (Ext.refl _))).mono ?_
              rintro _ w31 ⟨pa31, pc31, ua31, uc31, rfl, hr31, hz31, xw31⟩
              clear hm_0 hm_1 hm_2
              have HR31 := hid hr31; have HZ31 := hid hz31
              clear hr31 hz31
              have z2 := (Ext.refl w31).alloc (.cells #[.int .i64 5, .int .u64 p, .slice pa31 L0 pc31, .int .i64 m, .int .i64 m, .slice ua31 xs.length uc31, .int .i64 0, .int .i64 0, .slice none 0 0, .slice none 0 0] 28)
              have HA1 := hid (Blk.new w31 28 #[.int .i64 5, .int .u64 p, .slice pa31 L0 pc31, .int .i64 m, .int .i64 m, .slice ua31 xs.length uc31, .int .i64 0, .int .i64 0, .slice none 0 0, .slice none 0 0])
              obtain ⟨hs_0, hs_1, hs_2⟩ := (HS.out.ext (xw31.trans z2)).at3
              go_wp2_with fail
              refine (CS5.out _ (hx.trans (xw31.trans z2)) ((EW.out.trans (x7.out.trans hx)).trans (xw31.trans z2))).mono ?_
              rintro _ w32 ⟨pa32, pc32, ua32, uc32, rfl, hr32, hz32, xw32⟩
              clear hs_0 hs_1 hs_2
              have HR32 := hid hr32; have HZ32 := hid hz32
              clear hr32 hz32
              have z4 := (Ext.refl w32).alloc (.cells #[.int .i64 5, .int .u64 p, .slice pa32 L0 pc32, .int .i64 m, .int .i64 m, .slice ua32 xs.length uc32, .int .i64 0, .int .i64 0, .slice none 0 0, .slice none 0 0] 28)
              have HA2 := hid (Blk.new w32 28 #[.int .i64 5, .int .u64 p, .slice pa32 L0 pc32, .int .i64 m, .int .i64 m, .slice ua32 xs.length uc32, .int .i64 0, .int .i64 0, .slice none 0 0, .slice none 0 0])
              obtain ⟨ha1_0, ha1_1, ha1_2, ha1_3, ha1_4, ha1_5, ha1_6, ha1_7, ha1_8, ha1_9⟩ := (HA1.out.ext (xw32.trans z4)).at10
              go_wp2_with fail
              refine (CA5.out _ _ _ _ _ (HR31.out.ext (z2.trans (xw32.trans z4))) HZ31.out).mono ?_
              rintro _ w33 ⟨v33, rfl, hv33, xw33⟩
              clear ha1_0 ha1_1 ha1_2 ha1_3 ha1_4 ha1_5 ha1_6 ha1_7 ha1_8 ha1_9
              have HV33 := hid hv33
              obtain ⟨va33, vc33, rfl, n33, m33, k33⟩ := hv33
              simp only [List.length_cons, List.length_nil, Nat.zero_add] at HV33 n33 k33 ⊢
              obtain ⟨b33, o33, rfl, hb33, hcell33⟩ := k33 (by simp)
              have G33 := hid (show w33.cell? ⟨b33, o33, none⟩ = some (.int .u64 (D)) from by simpa using hcell33 0 (by simp))
              have B33 := hid hb33
              clear k33 hcell33 hb33
              obtain ⟨ha2_0, ha2_1, ha2_2, ha2_3, ha2_4, ha2_5, ha2_6, ha2_7, ha2_8, ha2_9⟩ := (HA2.out.ext xw33).at10
              go_wp2_with fail
              refine (CB5.out _ _ _ _ _ (HR32.out.ext (z4.trans xw33)) HZ32.out).mono ?_
              rintro _ w34 ⟨v34, rfl, hv34, xw34⟩
              clear ha2_0 ha2_1 ha2_2 ha2_3 ha2_4 ha2_5 ha2_6 ha2_7 ha2_8 ha2_9
              have HV34 := hid hv34
              obtain ⟨va34, vc34, rfl, n34, m34, k34⟩ := hv34
              simp only [List.length_cons, List.length_nil, Nat.zero_add] at HV34 n34 k34 ⊢
              obtain ⟨b34, o34, rfl, hb34, hcell34⟩ := k34 (by simp)
              have G34 := hid (show w34.cell? ⟨b34, o34, none⟩ = some (.int .u64 (D2)) from by simpa using hcell34 0 (by simp))
              have B34 := hid hb34
              clear k34 hcell34 hb34
              have g33 := (xw34.cells _ _ B33.out).trans G33.out
              have g34 := ((Ext.refl _).cells _ _ B34.out).trans G34.out
              go_wp2_with fail
              go_quiet ((go_at_call 20; first | exact quiet_l (CM.out _ D D2 hDr.1 hDr.2 HD2.out) | exact quiet_add_l (CM.out _ D D2 hDr.1 hDr.2 HD2.out)))
              have dq := (Ext.refl w34).drewN nq
              clear g33 g34
              by_cases hvy : (matB p m m xs && vecB p m ys) = true
              · have hvy2 : vecB p m ys = true := by rw [Bool.and_eq_true] at hvy; exact hvy.2
                have hyl : ys.length = m ∧ Rng p ys := by
                  unfold vecB at hvy2
                  rw [Bool.and_eq_true, decide_eq_true_eq] at hvy2
                  exact ⟨by omega, fun x hx => ⟨(Hy.out x hx).1, (hasB_true hvy2.2).2 x hx⟩⟩
                have CT := hid fun (V : World) (hV : Ext w V) => mxTimes_yes p m m _ _ xs ys V HOK.out (Hu.out.ext hV) (Hv.out.ext hV) hyl.2 hyl.1
                unfold matV at CT
                obtain ⟨T, hT2⟩ : ∃ T, timesL p m m xs ys = T := ⟨_, rfl⟩
                have hTl : T.length = m := by rw [← hT2]; exact timesL_len _ _ _ _
                have hTr : Rng p T := by rw [← hT2]; exact timesL_rng hp3 _ _ _ _
                rw [hT2] at CT
                have hsv : solvB p m m xs T = true := solvB_iff.2 (IsX.of_times HOK.out HF.out hT2)
                have h7 := solving_right hp2.1 hp2.2 HE1.out HOK.out hTl hTr
                have hz7 : TkZ ⟨7, p, bList p, m, m, xs, 0, 0, [], T⟩ := ⟨hp2.1, by show p ≤ _; omega, bList_ok (fun _ => bf_of hp2.1 hp2.2 HE1.out), Hx.out, by simp [U64s], hTr.u64 (by show p ≤ _; omega)⟩
                have CA7 := hid fun (V : World) (pv u2 bv : Value) (h : TkR V ⟨7, p, bList p, m, m, xs, 0, 0, [], T⟩ pv u2 (.slice none 0 0) bv) => tkAns h hz7 (ansE_yes h7) ((ansL_yes h7).trans (ansP7.trans (by rw [hsv])))
                have HTL := hid hTl
                clear hvy hvy2 hyl hT2 hTl hTr hsv h7 hz7
                obtain ⟨hm_0, hm_1, hm_2⟩ := (HM.out.ext (xw31.trans (z2.trans (xw32.trans (z4.trans (xw33.trans (xw34.trans dq))))))).at3
                go_wp2_with fail
                refine (CT.out _ ((EW.out.trans (x7.out.trans hx)).trans (xw31.trans (z2.trans (xw32.trans (z4.trans (xw33.trans (xw34.trans dq)))))))).mono ?_
                rintro _ w41 ⟨v41, rfl, hv41, xw41⟩
                clear hm_0 hm_1 hm_2
                have HV41 := hid hv41
                obtain ⟨va41, vc41, rfl, -, -, -⟩ := hv41
                have HBr := hid (HBW0.out.ext (x7.out.trans hx))
                obtain ⟨hbr_0, hbr_1, hbr_2, hbr_3, hbr_4, hbr_5, hbr_6, hbr_7, hbr_8, hbr_9⟩ := (HBr.out.ext (xw31.trans (z2.trans (xw32.trans (z4.trans (xw33.trans (xw34.trans (dq.trans xw41)))))))).at10
                obtain ⟨hm_0, hm_1, hm_2⟩ := (HM.out.ext (xw31.trans (z2.trans (xw32.trans (z4.trans (xw33.trans (xw34.trans (dq.trans xw41)))))))).at3
                go_wp2_with fail
                refine (CA7.out _ _ _ _ ⟨HRW0.out.pr.ext (x7.out.trans (hx.trans (xw31.trans (z2.trans (xw32.trans (z4.trans (xw33.trans (xw34.trans (dq.trans xw41))))))))), Hu.out.ext ((EW.out.trans (x7.out.trans hx)).trans (xw31.trans (z2.trans (xw32.trans (z4.trans (xw33.trans (xw34.trans (dq.trans xw41)))))))), Ints.nil, HV41.out⟩).mono ?_
                rintro _ w42 ⟨v42, rfl, hv42, xw42⟩
                clear hbr_0 hbr_1 hbr_2 hbr_3 hbr_4 hbr_5 hbr_6 hbr_7 hbr_8 hbr_9 hm_0 hm_1 hm_2
                have HV42 := hid hv42
                obtain ⟨va42, vc42, rfl, -, -, -⟩ := hv42
                simp only [List.length_cons, List.length_nil, Nat.zero_add] at HV42 ⊢
                go_wp2_with fail
                refine (same_yes _ _ [1] _ (HV42.out.alloc _) (hS1.out _)).mono ?_
                rintro _ w43 ⟨rfl, x43⟩
                have y43 : Ext w42 w43 := (Ext.alloc (Ext.refl _) _).trans x43
                go_wp2_with fail
                go_ret
                exact ⟨rfl, ((EW.out.trans (x7.out.trans hx)).trans (xw31.trans (z2.trans (xw32.trans (z4.trans (xw33.trans (xw34.trans (dq.trans (xw41.trans (xw42.trans y43))))))))))⟩
              · have CT := hid fun (V : World) (hV : Ext w V) => mxTimes_no p m m _ _ xs ys V hp2.1 (by omega) (Hu.out.ext hV) Hx.out (Hv.out.ext hV) Hy.out (Bool.eq_false_iff.2 hvy)
                unfold matV at CT
                clear hvy
                obtain ⟨hm_0, hm_1, hm_2⟩ := (HM.out.ext (xw31.trans (z2.trans (xw32.trans (z4.trans (xw33.trans (xw34.trans dq))))))).at3
                go_wp2_with fail
                refine (CT.out _ ((EW.out.trans (x7.out.trans hx)).trans (xw31.trans (z2.trans (xw32.trans (z4.trans (xw33.trans (xw34.trans dq)))))))).mono ?_
                rintro _ w41 ⟨rfl, xw41⟩
                clear hm_0 hm_1 hm_2
                go_wp2_with fail
                go_ret
                exact ⟨rfl, ((EW.out.trans (x7.out.trans hx)).trans (xw31.trans (z2.trans (xw32.trans (z4.trans (xw33.trans (xw34.trans (dq.trans xw41))))))))⟩
        · have hE2 : plE 2 p m n xs = 1 := plE_arg hp2.1 hp2.2 HE1.out (by show decide ((m : Int) = n) = false; exact decide_eq_false (by omega))
          have hF2 : plE 2 p m n l = 1 := plE_arg hp2.1 hp2.2 HE1.out (by show decide ((m : Int) = n) = false; exact decide_eq_false (by omega))
          have hE5 : plE 5 p m n xs = 1 := plE_arg hp2.1 hp2.2 HE1.out (by show decide ((m : Int) = n) = false; exact decide_eq_false (by omega))
          have CM2 := hid fun (V : World) (hV : Ext w V) => tkPlain_no 2 p m n _ xs V hp2.1 hp2.2 (Hu.out.ext hV) Hx.out (HT.out.ext hV) hE2 (by decide)
          have CS2 := hid fun (V : World) (h7 : Ext W7 V) (hV : Ext w V) => tkPlain_no 2 p m n _ l V hp2.1 hp2.2 (Hs.out.ext h7) HOKL.out.u64 (HT.out.ext hV) hF2 (by decide)
          have CM5 := hid fun (V : World) (hV : Ext w V) => tkPlain_no 5 p m n _ xs V hp2.1 hp2.2 (Hu.out.ext hV) Hx.out (HT.out.ext hV) hE5 (by decide)
          have HMN := hid hmn
          clear hE2 hF2 hE5 hmn
          go_wp2_with fail
          clear ha_0 ha_1 ha_2 c0' c1' c2'
          go_loopw [16] (fun iv wr => ∃ j : Nat, iv = .int .i64 j ∧ j ≤ 2 ∧ Ext W7 wr) (fun iv _ => 2 - (intOf iv).toNat)
          case atStart => exact ⟨0, rfl, by omega, Ext.refl _⟩
          case round =>
            obtain ⟨j, rfl, hj, hx⟩ := hrel
            rcases (by omega : j = 0 ∨ j = 1 ∨ j = 2) with rfl | rfl | rfl
            · clear hj
              have HM := hid (HAW.out.ext (x7.out.trans hx)); have HS := hid (HUl.out.box.ext hx)
              obtain ⟨hm_0, hm_1, hm_2⟩ := HM.out.at3
              go_wp2_with fail
              refine (CM4.out _ ((EW.out.trans (x7.out.trans hx)).trans (Ext.refl _))).mono ?_
              rintro _ w21 ⟨pa21, pc21, ua21, uc21, rfl, hr21, hz21, xw21⟩
              clear hm_0 hm_1 hm_2
              have HR21 := hid hr21; have HZ21 := hid hz21
              clear hr21 hz21
              have z2 := (Ext.refl w21).alloc (.cells #[.int .i64 4, .int .u64 p, .slice pa21 L0 pc21, .int .i64 m, .int .i64 n, .slice ua21 xs.length uc21, .int .i64 0, .int .i64 0, .slice none 0 0, .slice none 0 0] 28)
              have HA1 := hid (Blk.new w21 28 #[.int .i64 4, .int .u64 p, .slice pa21 L0 pc21, .int .i64 m, .int .i64 n, .slice ua21 xs.length uc21, .int .i64 0, .int .i64 0, .slice none 0 0, .slice none 0 0])
              obtain ⟨hs_0, hs_1, hs_2⟩ := (HS.out.ext (xw21.trans z2)).at3
              go_wp2_with fail
              refine (CS4.out _ (hx.trans (xw21.trans z2)) ((EW.out.trans (x7.out.trans hx)).trans (xw21.trans z2))).mono ?_
              rintro _ w22 ⟨pa22, pc22, ua22, uc22, rfl, hr22, hz22, xw22⟩
              clear hs_0 hs_1 hs_2
              have HR22 := hid hr22; have HZ22 := hid hz22
              clear hr22 hz22
              have z4 := (Ext.refl w22).alloc (.cells #[.int .i64 4, .int .u64 p, .slice pa22 L0 pc22, .int .i64 m, .int .i64 n, .slice ua22 xs.length uc22, .int .i64 0, .int .i64 0, .slice none 0 0, .slice none 0 0] 28)
              have HA2 := hid (Blk.new w22 28 #[.int .i64 4, .int .u64 p, .slice pa22 L0 pc22, .int .i64 m, .int .i64 n, .slice ua22 xs.length uc22, .int .i64 0, .int .i64 0, .slice none 0 0, .slice none 0 0])
              obtain ⟨ha1_0, ha1_1, ha1_2, ha1_3, ha1_4, ha1_5, ha1_6, ha1_7, ha1_8, ha1_9⟩ := (HA1.out.ext (xw22.trans z4)).at10
              go_wp2_with fail
              refine (CA4.out _ _ _ _ _ (HR21.out.ext (z2.trans (xw22.trans z4))) HZ21.out).mono ?_
              rintro _ w23 ⟨v23, rfl, hv23, xw23⟩
              clear ha1_0 ha1_1 ha1_2 ha1_3 ha1_4 ha1_5 ha1_6 ha1_7 ha1_8 ha1_9
              have HV23 := hid hv23
              obtain ⟨va23, vc23, rfl, -, -, -⟩ := hv23
              obtain ⟨ha2_0, ha2_1, ha2_2, ha2_3, ha2_4, ha2_5, ha2_6, ha2_7, ha2_8, ha2_9⟩ := (HA2.out.ext xw23).at10
              go_wp2_with fail
              refine (CB4.out _ _ _ _ _ (HR22.out.ext (z4.trans xw23)) HZ22.out).mono ?_
              rintro _ w24 ⟨v24, rfl, hv24, xw24⟩
              clear ha2_0 ha2_1 ha2_2 ha2_3 ha2_4 ha2_5 ha2_6 ha2_7 ha2_8 ha2_9
              have HV24 := hid hv24
              obtain ⟨va24, vc24, rfl, -, -, -⟩ := hv24
              go_wp2_with fail
              refine (same_yes _ _ P _ (HV23.out.ext xw24) HV24.out).mono ?_
              rintro _ w25 ⟨rfl, x25⟩
              go_wp2_with fail
              go_roundw
              case rel => exact ⟨1, by go_num, by omega, (hx.trans (xw21.trans (z2.trans (xw22.trans (z4.trans (xw23.trans (xw24.trans x25)))))))⟩
              case measure => simp [intOf]
            · clear hj
              have HM := hid (HAW.out.ext (x7.out.trans hx)); have HS := hid (HUl.out.box.ext hx)
              obtain ⟨hm_0, hm_1, hm_2⟩ := HM.out.at3
              go_wp2_with fail
              refine (CM2.out _ ((EW.out.trans (x7.out.trans hx)).trans (Ext.refl _))).mono ?_
              rintro _ w21 ⟨pa21, pc21, ua21, uc21, rfl, hr21, hz21, xw21⟩
              clear hm_0 hm_1 hm_2
              have HR21 := hid hr21; have HZ21 := hid hz21
              clear hr21 hz21
              have z2 := (Ext.refl w21).alloc (.cells #[.int .i64 0, .int .u64 0, .slice pa21 0 pc21, .int .i64 0, .int .i64 0, .slice ua21 0 uc21, .int .i64 0, .int .i64 0, .slice none 0 0, .slice none 0 0] 28)
              have HA1 := hid (Blk.new w21 28 #[.int .i64 0, .int .u64 0, .slice pa21 0 pc21, .int .i64 0, .int .i64 0, .slice ua21 0 uc21, .int .i64 0, .int .i64 0, .slice none 0 0, .slice none 0 0])
              obtain ⟨hs_0, hs_1, hs_2⟩ := (HS.out.ext (xw21.trans z2)).at3
              go_wp2_with fail
              refine (CS2.out _ (hx.trans (xw21.trans z2)) ((EW.out.trans (x7.out.trans hx)).trans (xw21.trans z2))).mono ?_
              rintro _ w22 ⟨pa22, pc22, ua22, uc22, rfl, hr22, hz22, xw22⟩
              clear hs_0 hs_1 hs_2
              have HR22 := hid hr22; have HZ22 := hid hz22
              clear hr22 hz22
              have z4 := (Ext.refl w22).alloc (.cells #[.int .i64 0, .int .u64 0, .slice pa22 0 pc22, .int .i64 0, .int .i64 0, .slice ua22 0 uc22, .int .i64 0, .int .i64 0, .slice none 0 0, .slice none 0 0] 28)
              have HA2 := hid (Blk.new w22 28 #[.int .i64 0, .int .u64 0, .slice pa22 0 pc22, .int .i64 0, .int .i64 0, .slice ua22 0 uc22, .int .i64 0, .int .i64 0, .slice none 0 0, .slice none 0 0])
              obtain ⟨ha1_0, ha1_1, ha1_2, ha1_3, ha1_4, ha1_5, ha1_6, ha1_7, ha1_8, ha1_9⟩ := (HA1.out.ext (xw22.trans z4)).at10
              go_wp2_with fail
              refine (CZ.out _ _ _ _ _ (HR21.out.ext (z2.trans (xw22.trans z4))) HZ21.out).mono ?_
              rintro _ w23 ⟨v23, rfl, hv23, xw23⟩
              clear ha1_0 ha1_1 ha1_2 ha1_3 ha1_4 ha1_5 ha1_6 ha1_7 ha1_8 ha1_9
              have HV23 := hid hv23
              obtain ⟨va23, vc23, rfl, -, -, -⟩ := hv23
              obtain ⟨ha2_0, ha2_1, ha2_2, ha2_3, ha2_4, ha2_5, ha2_6, ha2_7, ha2_8, ha2_9⟩ := (HA2.out.ext xw23).at10
              go_wp2_with fail
              refine (CZ.out _ _ _ _ _ (HR22.out.ext (z4.trans xw23)) HZ22.out).mono ?_
              rintro _ w24 ⟨v24, rfl, hv24, xw24⟩
              clear ha2_0 ha2_1 ha2_2 ha2_3 ha2_4 ha2_5 ha2_6 ha2_7 ha2_8 ha2_9
              have HV24 := hid hv24
              obtain ⟨va24, vc24, rfl, -, -, -⟩ := hv24
              go_wp2_with fail
              refine (same_yes _ _ [] _ (HV23.out.ext xw24) HV24.out).mono ?_
              rintro _ w25 ⟨rfl, x25⟩
              go_wp2_with fail
              go_roundw
              case rel => exact ⟨2, by go_num, by omega, (hx.trans (xw21.trans (z2.trans (xw22.trans (z4.trans (xw23.trans (xw24.trans x25)))))))⟩
              case measure => simp [intOf]
            · clear hj
              have HM := hid (HAW.out.ext (x7.out.trans hx)); have HS := hid (HUl.out.box.ext hx)
              obtain ⟨hm_0, hm_1, hm_2⟩ := HM.out.at3
              go_wp2_with fail
              refine (CM5.out _ ((EW.out.trans (x7.out.trans hx)).trans (Ext.refl _))).mono ?_
              rintro _ w31 ⟨pa31, pc31, ua31, uc31, rfl, hr31, hz31, xw31⟩
              clear hm_0 hm_1 hm_2
              have HR31 := hid hr31; have HZ31 := hid hz31
              clear hr31 hz31
              have z2 := (Ext.refl w31).alloc (.cells #[.int .i64 0, .int .u64 0, .slice pa31 0 pc31, .int .i64 0, .int .i64 0, .slice ua31 0 uc31, .int .i64 0, .int .i64 0, .slice none 0 0, .slice none 0 0] 28)
              have HA1 := hid (Blk.new w31 28 #[.int .i64 0, .int .u64 0, .slice pa31 0 pc31, .int .i64 0, .int .i64 0, .slice ua31 0 uc31, .int .i64 0, .int .i64 0, .slice none 0 0, .slice none 0 0])
              by_cases hvy : (matB p m n xs && vecB p n ys) = true
              · have hvy2 : vecB p n ys = true := by rw [Bool.and_eq_true] at hvy; exact hvy.2
                have hyl : ys.length = n ∧ Rng p ys := by
                  unfold vecB at hvy2
                  rw [Bool.and_eq_true, decide_eq_true_eq] at hvy2
                  exact ⟨by omega, fun x hx => ⟨(Hy.out x hx).1, (hasB_true hvy2.2).2 x hx⟩⟩
                have CT := hid fun (V : World) (hV : Ext w V) => mxTimes_yes p m n _ _ xs ys V HOK.out (Hu.out.ext hV) (Hv.out.ext hV) hyl.2 hyl.1
                unfold matV at CT
                obtain ⟨T, hT2⟩ : ∃ T, timesL p m n xs ys = T := ⟨_, rfl⟩
                have hTl : T.length = m := by rw [← hT2]; exact timesL_len _ _ _ _
                have hTr : Rng p T := by rw [← hT2]; exact timesL_rng hp3 _ _ _ _
                rw [hT2] at CT
                have hsv : solvB p m n xs T = true := solvB_iff.2 (IsX.of_times HOK.out HF.out hT2)
                have h7 := solving_right hp2.1 hp2.2 HE1.out HOK.out hTl hTr
                have hz7 : TkZ ⟨7, p, bList p, m, n, xs, 0, 0, [], T⟩ := ⟨hp2.1, by show p ≤ _; omega, bList_ok (fun _ => bf_of hp2.1 hp2.2 HE1.out), Hx.out, by simp [U64s], hTr.u64 (by show p ≤ _; omega)⟩
                have CA7 := hid fun (V : World) (pv u2 bv : Value) (h : TkR V ⟨7, p, bList p, m, n, xs, 0, 0, [], T⟩ pv u2 (.slice none 0 0) bv) => tkAns h hz7 (ansE_yes h7) ((ansL_yes h7).trans (ansP7.trans (by rw [hsv])))
                have HTL := hid hTl
                clear hvy hvy2 hyl hT2 hTl hTr hsv h7 hz7
                obtain ⟨hm_0, hm_1, hm_2⟩ := (HM.out.ext (xw31.trans z2)).at3
                go_wp2_with fail
                refine (CT.out _ ((EW.out.trans (x7.out.trans hx)).trans (xw31.trans z2))).mono ?_
                rintro _ w41 ⟨v41, rfl, hv41, xw41⟩
                clear hm_0 hm_1 hm_2
                have HV41 := hid hv41
                obtain ⟨va41, vc41, rfl, -, -, -⟩ := hv41
                have HBr := hid (HBW0.out.ext (x7.out.trans hx))
                obtain ⟨hbr_0, hbr_1, hbr_2, hbr_3, hbr_4, hbr_5, hbr_6, hbr_7, hbr_8, hbr_9⟩ := (HBr.out.ext (xw31.trans (z2.trans xw41))).at10
                obtain ⟨hm_0, hm_1, hm_2⟩ := (HM.out.ext (xw31.trans (z2.trans xw41))).at3
                go_wp2_with fail
                refine (CA7.out _ _ _ _ ⟨HRW0.out.pr.ext (x7.out.trans (hx.trans (xw31.trans (z2.trans xw41)))), Hu.out.ext ((EW.out.trans (x7.out.trans hx)).trans (xw31.trans (z2.trans xw41))), Ints.nil, HV41.out⟩).mono ?_
                rintro _ w42 ⟨v42, rfl, hv42, xw42⟩
                clear hbr_0 hbr_1 hbr_2 hbr_3 hbr_4 hbr_5 hbr_6 hbr_7 hbr_8 hbr_9 hm_0 hm_1 hm_2
                have HV42 := hid hv42
                obtain ⟨va42, vc42, rfl, -, -, -⟩ := hv42
                simp only [List.length_cons, List.length_nil, Nat.zero_add] at HV42 ⊢
                go_wp2_with fail
                refine (same_yes _ _ [1] _ (HV42.out.alloc _) (hS1.out _)).mono ?_
                rintro _ w43 ⟨rfl, x43⟩
                have y43 : Ext w42 w43 := (Ext.alloc (Ext.refl _) _).trans x43
                go_wp2_with fail
                go_ret
                exact ⟨rfl, ((EW.out.trans (x7.out.trans hx)).trans (xw31.trans (z2.trans (xw41.trans (xw42.trans y43)))))⟩
              · have CT := hid fun (V : World) (hV : Ext w V) => mxTimes_no p m n _ _ xs ys V hp2.1 (by omega) (Hu.out.ext hV) Hx.out (Hv.out.ext hV) Hy.out (Bool.eq_false_iff.2 hvy)
                unfold matV at CT
                clear hvy
                obtain ⟨hm_0, hm_1, hm_2⟩ := (HM.out.ext (xw31.trans z2)).at3
                go_wp2_with fail
                refine (CT.out _ ((EW.out.trans (x7.out.trans hx)).trans (xw31.trans z2))).mono ?_
                rintro _ w41 ⟨rfl, xw41⟩
                clear hm_0 hm_1 hm_2
                go_wp2_with fail
                go_ret
                exact ⟨rfl, ((EW.out.trans (x7.out.trans hx)).trans (xw31.trans (z2.trans xw41)))⟩
set_option maxRecDepth 100000 in
theorem contract (H : Type) (enc : TypeId × Value → H) (W : World) (base : Nat) (args : Array Value) (ds gs : List (DataW H)) (before : List MemPlace)
    (hval : ∀ (j : Nat) t v, Tryz.f6.params[j]? = some t → args[j]? = some v → Value.okWide Tryz.prog W .any base t v)
    (hW : DataW.Whole enc Tryz.prog Tryz.f6.params.toList Rows.taskScaledSpec.vars false W args.toList ds gs before) (hL : laidMetH Tryz.prog Rows.taskScaledRow.laid W) :
    Calls Tryz.prog 6 args W fun e W' => ∃ v, e = .returned v ∧ Rows.taskScaledSpec.post enc Tryz.prog Tryz.f6 false true false false W args v W' := by
  have hW' := hW
  obtain ⟨p, q, hA0, hV, rfl, _, _⟩ := hW
  have hA : DataW.TrodAll enc Tryz.prog W 0 (fun _ => true) true Tryz.f6.params.toList args.toList ds p := hA0
  rw [Tryz.params6] at hA hval
  obtain ⟨v0, vs0, d0, ds0, p0, q0, hargs, rfl, rfl, h0, r0⟩ := trodAll_cons hA
  obtain ⟨v1, vs1, d1, ds1, p1, q1, rfl, rfl, rfl, h1, r1⟩ := trodAll_cons r0
  obtain ⟨v2, vs2, d2, ds2, p2, q2, rfl, rfl, rfl, h2, r2⟩ := trodAll_cons r1
  obtain ⟨v3, vs3, d3, ds3, p3, q3, rfl, rfl, rfl, h3, r3⟩ := trodAll_cons r2
  obtain ⟨v4, vs4, d4, ds4, p4, q4, rfl, rfl, rfl, h4, r4⟩ := trodAll_cons r3
  obtain ⟨rfl, rfl, rfl⟩ := trodAll_nil r4
  obtain rfl : args = #[v0, v1, v2, v3, v4] := by cases args; simp_all
  obtain ⟨rfl, rfl⟩ := trodVars_none hV
  obtain ⟨a0, rfl, rfl, rfl, w0⟩ := open_int Tryz.underlying22 (hval 0 22 v0 rfl rfl) h0
  obtain ⟨mr1, mc1, mu1, xs1, rfl, wr1, wc1, i1, w1⟩ := open_Mat (hval 1 26 v1 rfl rfl) h1
  obtain ⟨a2, rfl, rfl, rfl, w2⟩ := open_int Tryz.underlying5 (hval 2 5 v2 rfl rfl) h2
  obtain ⟨a3, rfl, rfl, rfl, w3⟩ := open_int Tryz.underlying22 (hval 3 22 v3 rfl rfl) h3
  obtain ⟨xs4, i4, w4⟩ := open_Ints Tryz.underlying24 Tryz.underlying22 (by kernel_rfl) (hval 4 24 v4 rfl rfl) h4
  refine (walk a0 mr1 mc1 mu1 xs1 a2 a3 v4 xs4 W w0 wr1 wc1 i1 w1 w2 w3 i4 w4 (laid_tab hL)).mono fun e W' ⟨he, hg⟩ => ⟨_, he, ?_⟩
  exact law_post (by kernel_rfl) (by kernel_rfl) rfl Tryz.underlying4 rfl rfl hW' hg
theorem laid_met (os : Os) : laidMet Tryz.prog Rows.taskScaledRow.laid ((laidWorld os).forCall (fun _ _ => 0) ⟨#[], #[.int .u64 0, .agg #[.int .i64 0, .int .i64 0, .slice none 0 0], .int .u8 0, .int .u64 0, .slice none 0 0], []⟩).memory :=
  laidMet_of_run' 70 (by kernel_rfl) (by kernel_rfl)
theorem reads (os : Os) {H : Type} (enc : TypeId × Value → H) : ∃ places, DataW.whole enc Tryz.prog ((laidWorld os).forCall (fun _ _ => 0) ⟨#[], #[.int .u64 0, .agg #[.int .i64 0, .int .i64 0, .slice none 0 0], .int .u8 0, .int .u64 0, .slice none 0 0], []⟩).memory Tryz.f6.params.toList Rows.taskScaledSpec.vars false #[(Value.int .u64 0), (Value.agg #[.int .i64 0, .int .i64 0, .slice none 0 0]), (Value.int .u8 0), (Value.int .u64 0), (Value.slice none 0 0)].toList 8 = some ([.lit (.int .u64 0), .agg [.lit (.int .i64 0), .lit (.int .i64 0), .nil], .lit (.int .u8 0), .lit (.int .u64 0), .nil], [], places) :=
  ⟨[], by kernel_rfl⟩
set_option maxRecDepth 100000 in
theorem lifted (os : Os) (started : os.Started) (H : Type) (enc : TypeId × Value → H) (F : Stop.Interp) :
    ReturnsInHanded {} Tryz.checked os 6 .any ((OpenSpec.ofChange Rows.taskScaledSpec).preRow enc Tryz.prog Tryz.f6 Rows.taskScaledRow.domain false Rows.taskScaledRow.laid) (((OpenSpec.ofChange Rows.taskScaledSpec).at F).post enc Tryz.prog Tryz.f6 false true false false) := by
  obtain ⟨places, hx⟩ := reads os enc
  refine returnsInHanded_of_row (C := Tryz.checked) (s := OpenSpec.ofChange Rows.taskScaledSpec) own started (by kernel_rfl) Tryz.func6
    (witness_row_at (enc := enc) (C := Tryz.checked) false (laidWorld os) #[.int .u64 0, .agg #[.int .i64 0, .int .i64 0, .slice none 0 0], .int .u8 0, .int .u64 0, .slice none 0 0] rfl (by kernel_rfl) (by kernel_rfl) (by kernel_rfl)
      (OpenSpec.preRow_of_cond 8 hx (by kernel_rfl) (fun k hk => by cases hk) (by kernel_rfl) (laid_met os))) ?_
  intro W base args ds gs before hval hW _ _ _ hL _ _
  exact contract H enc W base args ds gs before hval hW hL
theorem said : Rows.TaskScaledSaid :=
  OpenClaim.holds_of_cond 6 Tryz.f6 rfl rfl rfl rfl rfl rfl rfl ⟨rfl, rfl, rfl, rfl, rfl⟩ rfl rfl rfl rfl rfl (by kernel_rfl) Tryz.func6 (by kernel_rfl)
    (of_decide_eq_true (by kernel_rfl)) (by unfold Func.isWrapper; first | (rw [if_pos (by decide +kernel)]; kernel_rfl) | (rw [if_neg (by decide +kernel)]; exact ⟨rfl, rfl⟩))
    (fun os started H enc _ F => by rw [OpenClaim.pre_eq_preRow]; exact lifted os started H enc F)
theorem plain (f : FuncId) (fn : Func) (hf : Tryz.pinned.checked.prog.funcNamed "affidavit/affidavitlaw16.TaskScaled" = some f) (hfn : Tryz.pinned.checked.prog.funcs[f]? = some fn) :
    false = Tryz.pinned.checked.prog.looks [] ∧ ∀ (j : Nat) t, fn.params[j]? = some t → Tryz.pinned.checked.prog.wantsStandIn t = false := by
  obtain rfl : f = 6 := Option.some.inj ((show Tryz.prog.funcNamed "affidavit/affidavitlaw16.TaskScaled" = some 6 by kernel_rfl).symm.trans hf) |>.symm
  obtain rfl : fn = Tryz.f6 := (Option.some.inj (Tryz.func6.symm.trans hfn)).symm
  refine ⟨by kernel_rfl, fun j t ht => ?_⟩
  rw [Tryz.params6] at ht
  have hm : t ∈ ([22, 26, 5, 22, 24] : List Nat) := by simpa using Array.mem_of_getElem? ht
  have hall : ∀ t ∈ ([22, 26, 5, 22, 24] : List Nat), Tryz.prog.wantsStandIn t = false := List.all_eq_true.1 (show ([22, 26, 5, 22, 24] : List Nat).all (fun t => Tryz.prog.wantsStandIn t == false) = true by kernel_rfl) |> fun h t ht => by simpa using h t ht
  exact hall t hm
theorem card : Rows.TaskScaledCardSaid :=
  Claim7.holds_tied_plain_at .later [] _ _ _ _ said (fun _ h => by cases h) (by kernel_rfl) (fun _ h => by cases h) taskScaled_row_tie rfl ⟨rfl, rfl⟩ (by kernel_rfl) rfl plain (by kernel_rfl)
end Go.Proofs.YthomeenmcajmdaaGreatDoor.taskScaled
