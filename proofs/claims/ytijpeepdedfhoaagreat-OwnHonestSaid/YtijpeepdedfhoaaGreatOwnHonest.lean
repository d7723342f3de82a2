/- OwnHonest: whatever the arguments, the law answers true, and nothing that was there has turned. No condition. -/
import Derived.Test.YtijpeepdedfhoaaGreatAwake15
import Derived.Test.YtijpeepdedfhoaaGreatBun22
import Derived.Test.YtijpeepdedfhoaaGreatBun30
import Derived.Test.YtijpeepdedfhoaaGreatFldP
import Derived.Test.YtijpeepdedfhoaaGreatBun08
import Derived.Test.YtijpeepdedfhoaaGreatOpenOw
namespace Go.Proofs.YtijpeepdedfhoaaGreat.ownHonest
open Go.ChangeShapes Go.WideShapes Go.ChangeAt Go.RowKit Go.Maps

set_option maxRecDepth 100000 in
set_option maxHeartbeats 4000000 in
theorem walk_skip (p r c : Int) (mv vu vv vx : Value) (xs : List Int) (z : Int) (w : World) (h0 : 0 ≤ p) (h1 : p ≤ 18446744073709551615) (hm : Ints .u64 w mv xs) (ux : U64s xs) (h : (decide (xs.length ≤ 25) && (takenB p && (matB p r c xs && (decide (r = c) && decide (z < p))))) = false) :
    Calls Tryz.prog 3 #[.int .u64 p, matV r c mv, vu, vv, vx, .int .u64 z] w (Ret (.bool true) w) := by
  have CI := hid fun (W : World) => prime_any p W h0
  have CM := hid fun (W : World) (hW : Ext w W) => mxRight p r c mv xs W h0 h1 (hm.ext hW) ux
  obtain ⟨I, eI⟩ : ∃ B, takenB p = B := ⟨_, rfl⟩
  rw [eI] at CI h
  obtain ⟨M, eM⟩ : ∃ B, matB p r c xs = B := ⟨_, rfl⟩
  rw [eM] at CM h
  clear eI eM ux
  unfold matV at CM
  obtain ⟨a, cap, rfl, -, -, -⟩ := hm
  have HM := hid (Blk.new w 25 #[.int .i64 r, .int .i64 c, .slice a xs.length cap])
  have hW0 := hid ((Ext.refl w).alloc (.cells #[.int .i64 r, .int .i64 c, .slice a xs.length cap] 25))
  unfold matV
  obtain ⟨LM, eLM⟩ : ∃ k, xs.length = k := ⟨_, rfl⟩
  rw [eLM] at h HM hW0 CM
  rw [eLM]
  clear eLM
  have Hh := hid h
  clear h
  go_enter Tryz.func3, Tryz.ntmps3
  go_wp2_with fail
  refine (awake15 _).mono ?_
  rintro _ w1 ⟨rfl, xw1⟩
  by_cases g1 : LM ≤ 25
  case neg =>
    obtain ⟨hm_0, hm_1, hm_2⟩ := (HM.out.ext xw1).at3
    go_wp2_with fail
    go_ret
    exact ⟨rfl, (hW0.out.trans xw1)⟩
  obtain ⟨hm_0, hm_1, hm_2⟩ := (HM.out.ext xw1).at3
  go_wp2_with fail
  refine (CI.out _).mono ?_
  rintro _ _ ⟨rfl, rfl⟩
  clear hm_0 hm_1 hm_2
  cases I
  · obtain ⟨hm_0, hm_1, hm_2⟩ := (HM.out.ext xw1).at3
    go_wp2_with fail
    go_ret
    exact ⟨rfl, (hW0.out.trans xw1)⟩
  obtain ⟨hm_0, hm_1, hm_2⟩ := (HM.out.ext xw1).at3
  go_wp2_with fail
  refine (CM.out _ (hW0.out.trans xw1)).mono ?_
  rintro _ w2 ⟨rfl, xw2⟩
  clear hm_0 hm_1 hm_2
  cases M
  · obtain ⟨hm_0, hm_1, hm_2⟩ := (HM.out.ext (xw1.trans xw2)).at3
    go_wp2_with fail
    go_ret
    exact ⟨rfl, (hW0.out.trans (xw1.trans xw2))⟩
  by_cases g4 : r = c
  case neg =>
    have bg4 : (r != c) = true := by rw [bne_iff_ne]; exact g4
    obtain ⟨hm_0, hm_1, hm_2⟩ := (HM.out.ext (xw1.trans xw2)).at3
    go_wp2_with fail
    go_ret
    exact ⟨rfl, (hW0.out.trans (xw1.trans xw2))⟩
  have bg4 : (r != c) = false := by simp [g4]
  have Hg4 := hid g4
  clear g4
  by_cases g5 : z < p
  case neg =>
    obtain ⟨hm_0, hm_1, hm_2⟩ := (HM.out.ext (xw1.trans xw2)).at3
    go_wp2_with fail
    go_ret
    exact ⟨rfl, (hW0.out.trans (xw1.trans xw2))⟩
  exact absurd Hh.out (by simp [g1, Hg4.out, g5])
set_option maxRecDepth 100000 in
set_option maxHeartbeats 4000000 in
theorem walk_a (p : Int) (n : Nat) (mv vu vv vx : Value) (xs u v x : List Int) (z : Int) (w : World) (ok : MatOk p n n xs) (hT : takenB p = true) (hlen : xs.length ≤ 25) (hz1 : z < p) (hm : Ints .u64 w mv xs) (hu : Ints .u64 w vu u) (ux : U64s u) (hv : Ints .u64 w vv v) (vx' : U64s v) (hx : Ints .u64 w vx x) (h : (vecB p n u && vecB p n v) = false) :
    Calls Tryz.prog 3 #[.int .u64 p, matV n n mv, vu, vv, vx, .int .u64 z] w (Ret (.bool true) w) := by
  have hp2 := rightB_true ok.hp
  have hf : Fld p := taken_fld hT
  have CI := hid fun (W : World) => (hT ▸ prime_any p W (by omega) : Calls Tryz.prog 8 #[.int .u64 p] W fun e w' => e = .returned (.bool true) ∧ W = w')
  have CM := hid fun (W : World) (hW : Ext w W) => (ok.b ▸ mxRight p n n mv xs W (by omega) (by omega) (hm.ext hW) ok.u64 : Calls Tryz.prog 9 #[.int .u64 p, matV n n mv] W (Ret (.bool true) W))
  have CK := hid fun (W : World) (hW : Ext w W) => owMake_arg p n xs u v mv vu vv W ok (hm.ext hW) (hu.ext hW) ux (hv.ext hW) vx' h
  have CU := hid fun (W : World) (hW : Ext w W) => rHas p vu u W (by omega) (by omega) (hu.ext hW) ux
  have CV := hid fun (W : World) (hW : Ext w W) => rHas p vv v W (by omega) (by omega) (hv.ext hW) vx'
  unfold vecB at h
  obtain ⟨BU, eU⟩ : ∃ B, hasB p u = B := ⟨_, rfl⟩
  obtain ⟨BV, eV⟩ : ∃ B, hasB p v = B := ⟨_, rfl⟩
  rw [eU] at CU h; rw [eV] at CV h
  have Hh := hid h
  clear eU eV h ok hT hf ux vx'
  unfold noOwn at CK
  unfold matV at CM CK
  unfold matV
  obtain ⟨a, cap, rfl, -, -, -⟩ := hm
  obtain ⟨b1, d1, rfl, -, -, -⟩ := hu
  obtain ⟨b2, d2, rfl, -, -, -⟩ := hv
  obtain ⟨b3, d3, rfl, -, -, -⟩ := hx
  obtain ⟨LU, eLU⟩ : ∃ k, u.length = k := ⟨_, rfl⟩
  obtain ⟨LV, eLV⟩ : ∃ k, v.length = k := ⟨_, rfl⟩
  rw [eLU] at CK CU; rw [eLV] at CK CV
  replace Hh := hid (by have := Hh.out; rwa [eLU, eLV] at this : ((decide ((LU : Int) = n) && BU) && (decide ((LV : Int) = n) && BV)) = false)
  rw [eLU, eLV]
  clear eLU eLV
  have HM := hid (Blk.new w 25 #[.int .i64 (n : Int), .int .i64 (n : Int), .slice a xs.length cap])
  have hW0 := hid ((Ext.refl w).alloc (.cells #[.int .i64 (n : Int), .int .i64 (n : Int), .slice a xs.length cap] 25))
  have nn : ((n : Int) != (n : Int)) = false := by simp
  go_enter Tryz.func3, Tryz.ntmps3
  go_wp2_with fail
  refine (awake15 _).mono ?_
  rintro _ w1 ⟨rfl, xw1⟩
  obtain ⟨hm_0, hm_1, hm_2⟩ := (HM.out.ext xw1).at3
  go_wp2_with fail
  refine (CI.out _).mono ?_
  rintro _ _ ⟨rfl, rfl⟩
  go_wp2_with fail
  refine (CM.out _ (hW0.out.trans xw1)).mono ?_
  rintro _ w2 ⟨rfl, xw2⟩
  clear hm_0 hm_1 hm_2
  obtain ⟨hm_0, hm_1, hm_2⟩ := (HM.out.ext (xw1.trans xw2)).at3
  go_wp2_with fail
  refine (CK.out _ (hW0.out.trans (xw1.trans xw2))).mono ?_
  rintro _ w3 ⟨rfl, xw3⟩
  clear hm_0 hm_1 hm_2
  have z5 := (Ext.refl w3).alloc (.cells #[.slice none 0 0, .slice none 0 0, .slice none 0 0, .slice none 0 0, .slice none 0 0, .slice none 0 0] 30)
  by_cases g1 : (LU : Int) = (n : Int)
  case neg =>
    have t1 : ((LU : Int) != (n : Int)) = true := by rw [bne_iff_ne]; exact g1
    obtain ⟨hm_0, hm_1, hm_2⟩ := (HM.out.ext (xw1.trans (xw2.trans (xw3.trans z5)))).at3
    go_wp2_with fail
    go_ret
    exact ⟨rfl, (hW0.out.trans (xw1.trans (xw2.trans (xw3.trans z5))))⟩
  have t1 : ((LU : Int) != (n : Int)) = false := by simp [g1]
  have G1 := hid g1
  clear g1
  by_cases g2 : (LV : Int) = (n : Int)
  case neg =>
    have t2 : ((LV : Int) != (n : Int)) = true := by rw [bne_iff_ne]; exact g2
    obtain ⟨hm_0, hm_1, hm_2⟩ := (HM.out.ext (xw1.trans (xw2.trans (xw3.trans z5)))).at3
    go_wp2_with fail
    go_ret
    exact ⟨rfl, (hW0.out.trans (xw1.trans (xw2.trans (xw3.trans z5))))⟩
  have t2 : ((LV : Int) != (n : Int)) = false := by simp [g2]
  have G2 := hid g2
  clear g2
  obtain ⟨hm_0, hm_1, hm_2⟩ := (HM.out.ext (xw1.trans (xw2.trans (xw3.trans z5)))).at3
  go_wp2_with fail
  refine (CU.out _ (hW0.out.trans (xw1.trans (xw2.trans (xw3.trans z5))))).mono ?_
  rintro _ _ ⟨rfl, rfl⟩
  clear hm_0 hm_1 hm_2
  cases BU
  · obtain ⟨hm_0, hm_1, hm_2⟩ := (HM.out.ext (xw1.trans (xw2.trans (xw3.trans z5)))).at3
    go_wp2_with fail
    go_ret
    exact ⟨rfl, (hW0.out.trans (xw1.trans (xw2.trans (xw3.trans z5))))⟩
  obtain ⟨hm_0, hm_1, hm_2⟩ := (HM.out.ext (xw1.trans (xw2.trans (xw3.trans z5)))).at3
  go_wp2_with fail
  refine (CV.out _ (hW0.out.trans (xw1.trans (xw2.trans (xw3.trans z5))))).mono ?_
  rintro _ _ ⟨rfl, rfl⟩
  clear hm_0 hm_1 hm_2
  cases BV
  · obtain ⟨hm_0, hm_1, hm_2⟩ := (HM.out.ext (xw1.trans (xw2.trans (xw3.trans z5)))).at3
    go_wp2_with fail
    go_ret
    exact ⟨rfl, (hW0.out.trans (xw1.trans (xw2.trans (xw3.trans z5))))⟩
  exact absurd Hh.out (by simp [G1.out, G2.out])
set_option maxRecDepth 100000 in
set_option maxHeartbeats 8000000 in
theorem walk_c (p : Int) (n : Nat) (mv vu vv vx : Value) (xs u v x : List Int) (z : Int) (w : World) (ok : MatOk p n n xs) (hT : takenB p = true) (hlen : xs.length ≤ 25) (hz0 : 0 ≤ z) (hz1 : z < p) (hm : Ints .u64 w mv xs) (hu : Ints .u64 w vu u) (hv : Ints .u64 w vv v) (hx : Ints .u64 w vx x) (xx : U64s x) (hul : u.length = n) (hur : Rng p u) (hvl : v.length = n) (hvr : Rng p v) :
    Calls Tryz.prog 3 #[.int .u64 p, matV n n mv, vu, vv, vx, .int .u64 z] w (Ret (.bool true) w) := by
  have hp2 := rightB_true ok.hp
  have hf : Fld p := taken_fld hT
  have CI := hid fun (W : World) => (hT ▸ prime_any p W (by omega) : Calls Tryz.prog 8 #[.int .u64 p] W fun e w' => e = .returned (.bool true) ∧ W = w')
  have CM := hid fun (W : World) (hW : Ext w W) => (ok.b ▸ mxRight p n n mv xs W (by omega) (by omega) (hm.ext hW) ok.u64 : Calls Tryz.prog 9 #[.int .u64 p, matV n n mv] W (Ret (.bool true) W))
  obtain ⟨F, hmin⟩ := MinL.any (hf.has hp2.1) n xs
  have hFl := hmin.len (hf.has hp2.1)
  have hn := ok.hn
  have CK := hid fun (W : World) (hW : Ext w W) => owMake p n xs u v F mv vu vv W ok hf (hm.ext hW) (hu.ext hW) hul hur (hv.ext hW) hvl hvr hmin
  have CE := hid fun (W : World) (fv : Value) (hF : Ints .u64 W fv F) => pEval_yes p z fv F W ok.hp hF hmin.isp (by omega) hz0 hz1
  have CS := hid fun (W : World) (fv : Value) (hW : Ext w W) (hF : Ints .u64 W fv F) => krSame p n fv mv F xs F W ok hf hF (hm.ext hW) hmin
  rw [decide_eq_true rfl] at CS
  obtain ⟨E, eE'⟩ : ∃ E, hor p z F.reverse = E := ⟨_, rfl⟩
  obtain ⟨cd, l, CA, HA⟩ : ∃ (cd : Int) (l : List Int), Hid (∀ W : World, Ext w W → Calls Tryz.prog 16 #[.int .u64 p, matV n n mv, vv, .int .u64 z] W (RetE cd l W)) ∧
      Hid ((cd = 6 ∧ E = 0) ∨ (cd = 0 ∧ (E ≠ 0 → ∀ (W : World) (f1 f2 f3 f4 f5 f6 y : Value) (S T : List Int), Ext w W → OwnR W f1 f2 f3 f4 f5 f6 F (folL p n xs F u v) S T u v → OwnOk p n F (folL p n xs F u v) S T u v → Ints .u64 W y l →
        Calls Tryz.prog 17 #[.int .u64 p, matV n n mv, .agg #[f1, f2, f3, f4, f5, f6], .int .u64 z, y] W (Ret (.tuple #[.bool true, .int .i64 0]) W)))) := by
    by_cases hA : ∃ y, IsX p n n (shL p n z xs) v y
    · obtain ⟨y, hy⟩ := hA
      refine ⟨0, y, hid fun W hW => owAnswer_yes p z n xs v y mv vv W ok hf (hm.ext hW) (hv.ext hW) hvl hvr hz0 hz1 hy, hid (.inr ⟨rfl, fun _ W f1 f2 f3 f4 f5 f6 yv S T hW o q hyv => ?_⟩)⟩
      have h := owPasses p z n F (folL p n xs F u v) S T u v xs y mv f1 f2 f3 f4 f5 f6 yv W ok (hm.ext hW) o q.u q hz0 hz1 hyv hy.len hy.rng
      have hB : passB p n xs F (folL p n xs F u v) u v z y = true := by
        unfold passB
        rw [left_sh hy.len, decide_eq_true hy.sol, Bool.true_and, decide_eq_true_eq]
        exact ans_follows hp2.1 hul hy.len (hmin.all _) hy.sol
      rwa [hB] at h
    · refine ⟨6, [], hid fun W hW => owAnswer_no p z n xs v mv vv W ok hf (hm.ext hW) (hv.ext hW) hvl hvr hz0 hz1 hA, hid (.inl ⟨rfl, ?_⟩)⟩
      rw [← eE']
      exact Classical.byContradiction fun h0 => hA (ans_has ok hf hvl hvr (hmin.all _) h0)
  rw [eE'] at CE
  obtain ⟨H, eH⟩ : ∃ H, folL p n xs F u v = H := ⟨_, rfl⟩
  rw [eH] at CK HA
  have CH := hid fun (W : World) (f1 f2 f3 f4 f5 f6 : Value) (S T : List Int) (o : OwnR W f1 f2 f3 f4 f5 f6 F H S T u v) (q : OwnOk p n F H S T u v) => (show Calls Tryz.prog 12 #[.int .u64 p, .agg #[f1, f2, f3, f4, f5, f6], .int .i64 n] W (Ret (.bool true) W) from (ownB_iff q.u).2 ⟨n, rfl, q⟩ ▸ owHas p n F H S T u v f1 f2 f3 f4 f5 f6 W (by omega) (by omega) o q.u)
  have CD := hid fun (W : World) (f1 f2 f3 f4 f5 f6 : Value) (S T : List Int) (hW : Ext w W) (o : OwnR W f1 f2 f3 f4 f5 f6 F H S T u v) (q : OwnOk p n F H S T u v) => owDies p n F H S T u v xs x mv f1 f2 f3 f4 f5 f6 vx W ok (hm.ext hW) o q.u q (hx.ext hW) xx
  rw [show diesB p n xs F x = true from decide_eq_true (pdoL_kil.2 (hmin.all _)), Bool.and_true] at CD
  obtain ⟨BX, eX⟩ : ∃ B, vecB p n x = B := ⟨_, rfl⟩
  rw [eX] at CD
  clear eX eE' eH hmin hFl ok hT hf xx hul hur hvl hvr
  unfold RetOwn noOwn at CK
  unfold matV at CM CK CA CS CD HA
  unfold matV
  obtain ⟨a, cap, rfl, -, -, -⟩ := hm
  obtain ⟨b1, d1, rfl, -, -, -⟩ := hu
  obtain ⟨b2, d2, rfl, -, -, -⟩ := hv
  obtain ⟨b3, d3, rfl, -, -, -⟩ := hx
  have HM := hid (Blk.new w 25 #[.int .i64 (n : Int), .int .i64 (n : Int), .slice a xs.length cap])
  have hW0 := hid ((Ext.refl w).alloc (.cells #[.int .i64 (n : Int), .int .i64 (n : Int), .slice a xs.length cap] 25))
  have nn : ((n : Int) != (n : Int)) = false := by simp
  go_enter Tryz.func3, Tryz.ntmps3
  go_wp2_with fail
  refine (awake15 _).mono ?_
  rintro _ w1 ⟨rfl, xw1⟩
  obtain ⟨hm_0, hm_1, hm_2⟩ := (HM.out.ext xw1).at3
  go_wp2_with fail
  refine (CI.out _).mono ?_
  rintro _ _ ⟨rfl, rfl⟩
  go_wp2_with fail
  refine (CM.out _ (hW0.out.trans xw1)).mono ?_
  rintro _ w2 ⟨rfl, xw2⟩
  clear hm_0 hm_1 hm_2
  obtain ⟨hm_0, hm_1, hm_2⟩ := (HM.out.ext (xw1.trans xw2)).at3
  go_wp2_with fail
  refine (CK.out _ (hW0.out.trans (xw1.trans xw2))).mono ?_
  clear hm_0 hm_1 hm_2
  rintro e3 w3 (⟨hg, f1, f2, f3, f4, f5, f6, S, T, rfl, o3, q3, -, xw3⟩ | ⟨hg, rfl, xw3⟩)
  case inr =>
    clear hg
    have z5 := (Ext.refl w3).alloc (.cells #[.slice none 0 0, .slice none 0 0, .slice none 0 0, .slice none 0 0, .slice none 0 0, .slice none 0 0] 30)
    obtain ⟨hm_0, hm_1, hm_2⟩ := (HM.out.ext (xw1.trans (xw2.trans (xw3.trans z5)))).at3
    go_wp2_with fail
    go_ret
    exact ⟨rfl, (hW0.out.trans (xw1.trans (xw2.trans (xw3.trans z5))))⟩
  clear hg
  have OC := hid o3
  have QQ := hid q3
  obtain ⟨⟨a1, c1, rfl⟩, ⟨a2, c2, rfl⟩, ⟨a3, c3, rfl⟩, ⟨a4, c4, rfl⟩, ⟨a5, c5, rfl⟩, ⟨a6, c6, rfl⟩⟩ := o3.slices
  clear o3 q3
  have HC0 := Blk.new w3 30 #[.slice a1 F.length c1, .slice a2 H.length c2, .slice a3 S.length c3, .slice a4 T.length c4, .slice a5 u.length c5, .slice a6 v.length c6]
  obtain ⟨wc, hwc⟩ : ∃ W, w3.alloc (.cells #[.slice a1 F.length c1, .slice a2 H.length c2, .slice a3 S.length c3, .slice a4 T.length c4, .slice a5 u.length c5, .slice a6 v.length c6] 30) = W := ⟨_, rfl⟩
  rw [hwc] at HC0
  have xwc : Ext w3 wc := hwc ▸ (Ext.refl w3).alloc _
  have HC := hid HC0
  clear HC0
  obtain ⟨hm_0, hm_1, hm_2⟩ := (HM.out.ext (xw1.trans (xw2.trans (xw3.trans xwc)))).at3
  obtain ⟨hc_0, hc_1, hc_2, hc_3, hc_4, hc_5⟩ := HC.out.at6
  go_wp2_with fail
  refine (CH.out _ _ _ _ _ _ _ _ _ (OC.out.ext xwc) QQ.out).mono ?_
  rintro _ w4 ⟨rfl, xw4⟩
  clear hm_0 hm_1 hm_2 hc_0 hc_1 hc_2 hc_3 hc_4 hc_5
  obtain ⟨hm_0, hm_1, hm_2⟩ := (HM.out.ext (xw1.trans (xw2.trans (xw3.trans (xwc.trans xw4))))).at3
  obtain ⟨hc_0, hc_1, hc_2, hc_3, hc_4, hc_5⟩ := (HC.out.ext xw4).at6
  go_wp2_with fail
  refine (CS.out _ _ (hW0.out.trans (xw1.trans (xw2.trans (xw3.trans (xwc.trans xw4))))) ((OC.out.ext (xwc.trans xw4))).f).mono ?_
  rintro _ w5 ⟨rfl, xw5⟩
  clear hm_0 hm_1 hm_2 hc_0 hc_1 hc_2 hc_3 hc_4 hc_5
  obtain ⟨hm_0, hm_1, hm_2⟩ := (HM.out.ext (xw1.trans (xw2.trans (xw3.trans (xwc.trans (xw4.trans xw5)))))).at3
  obtain ⟨hc_0, hc_1, hc_2, hc_3, hc_4, hc_5⟩ := (HC.out.ext (xw4.trans xw5)).at6
  go_wp2_with fail
  refine (CD.out _ _ _ _ _ _ _ _ _ (hW0.out.trans (xw1.trans (xw2.trans (xw3.trans (xwc.trans (xw4.trans xw5)))))) (OC.out.ext (xwc.trans (xw4.trans xw5))) QQ.out).mono ?_
  rintro _ w6 ⟨rfl, xw6⟩
  clear hm_0 hm_1 hm_2 hc_0 hc_1 hc_2 hc_3 hc_4 hc_5
  cases BX
  all_goals
    obtain ⟨hm_0, hm_1, hm_2⟩ := (HM.out.ext (xw1.trans (xw2.trans (xw3.trans (xwc.trans (xw4.trans (xw5.trans xw6))))))).at3
    obtain ⟨hc_0, hc_1, hc_2, hc_3, hc_4, hc_5⟩ := (HC.out.ext (xw4.trans (xw5.trans xw6))).at6
    go_wp2_with fail
    refine (CE.out _ _ ((OC.out.ext (xwc.trans (xw4.trans (xw5.trans xw6))))).f).mono ?_
    rintro _ w7 ⟨rfl, xw7⟩
    clear hm_0 hm_1 hm_2 hc_0 hc_1 hc_2 hc_3 hc_4 hc_5
    obtain ⟨hm_0, hm_1, hm_2⟩ := (HM.out.ext (xw1.trans (xw2.trans (xw3.trans (xwc.trans (xw4.trans (xw5.trans (xw6.trans xw7)))))))).at3
    obtain ⟨hc_0, hc_1, hc_2, hc_3, hc_4, hc_5⟩ := (HC.out.ext (xw4.trans (xw5.trans (xw6.trans xw7)))).at6
    go_wp2_with fail
    refine (CA.out _ (hW0.out.trans (xw1.trans (xw2.trans (xw3.trans (xwc.trans (xw4.trans (xw5.trans (xw6.trans xw7))))))))).mono ?_
    rintro _ w8 ⟨y8, rfl, i8, xw8⟩
    clear hm_0 hm_1 hm_2 hc_0 hc_1 hc_2 hc_3 hc_4 hc_5
    have I8 := hid i8
    obtain ⟨a8, c8, rfl, -, -, -⟩ := i8
    rcases HA.out with ⟨rfl, e0⟩ | ⟨rfl, hP⟩
    · have eE : (E == 0) = true := by simp [e0]
      clear e0
      obtain ⟨hm_0, hm_1, hm_2⟩ := (HM.out.ext (xw1.trans (xw2.trans (xw3.trans (xwc.trans (xw4.trans (xw5.trans (xw6.trans (xw7.trans xw8))))))))).at3
      obtain ⟨hc_0, hc_1, hc_2, hc_3, hc_4, hc_5⟩ := (HC.out.ext (xw4.trans (xw5.trans (xw6.trans (xw7.trans xw8))))).at6
      go_wp2_with fail
      go_ret
      exact ⟨rfl, (hW0.out.trans (xw1.trans (xw2.trans (xw3.trans (xwc.trans (xw4.trans (xw5.trans (xw6.trans (xw7.trans xw8)))))))))⟩
    by_cases g9 : E = 0
    · have eE : (E == 0) = true := by simp [g9]
      clear g9 hP
      obtain ⟨hm_0, hm_1, hm_2⟩ := (HM.out.ext (xw1.trans (xw2.trans (xw3.trans (xwc.trans (xw4.trans (xw5.trans (xw6.trans (xw7.trans xw8))))))))).at3
      obtain ⟨hc_0, hc_1, hc_2, hc_3, hc_4, hc_5⟩ := (HC.out.ext (xw4.trans (xw5.trans (xw6.trans (xw7.trans xw8))))).at6
      go_wp2_with fail
      go_ret
      exact ⟨rfl, (hW0.out.trans (xw1.trans (xw2.trans (xw3.trans (xwc.trans (xw4.trans (xw5.trans (xw6.trans (xw7.trans xw8)))))))))⟩
    have eE : (E == 0) = false := by simp [g9]
    have HP := hid (hP g9)
    clear g9 hP
    obtain ⟨hm_0, hm_1, hm_2⟩ := (HM.out.ext (xw1.trans (xw2.trans (xw3.trans (xwc.trans (xw4.trans (xw5.trans (xw6.trans (xw7.trans xw8))))))))).at3
    obtain ⟨hc_0, hc_1, hc_2, hc_3, hc_4, hc_5⟩ := (HC.out.ext (xw4.trans (xw5.trans (xw6.trans (xw7.trans xw8))))).at6
    go_wp2_with fail
    refine (HP.out _ _ _ _ _ _ _ _ _ _ (hW0.out.trans (xw1.trans (xw2.trans (xw3.trans (xwc.trans (xw4.trans (xw5.trans (xw6.trans (xw7.trans xw8))))))))) (OC.out.ext (xwc.trans (xw4.trans (xw5.trans (xw6.trans (xw7.trans xw8)))))) QQ.out I8.out).mono ?_
    rintro _ w9 ⟨rfl, xw9⟩
    clear hm_0 hm_1 hm_2 hc_0 hc_1 hc_2 hc_3 hc_4 hc_5
    obtain ⟨hm_0, hm_1, hm_2⟩ := (HM.out.ext (xw1.trans (xw2.trans (xw3.trans (xwc.trans (xw4.trans (xw5.trans (xw6.trans (xw7.trans (xw8.trans xw9)))))))))).at3
    obtain ⟨hc_0, hc_1, hc_2, hc_3, hc_4, hc_5⟩ := (HC.out.ext (xw4.trans (xw5.trans (xw6.trans (xw7.trans (xw8.trans xw9)))))).at6
    go_wp2_with fail
    go_ret
    exact ⟨rfl, (hW0.out.trans (xw1.trans (xw2.trans (xw3.trans (xwc.trans (xw4.trans (xw5.trans (xw6.trans (xw7.trans (xw8.trans xw9))))))))))⟩

theorem walk (p : Int) (r c : Int) (mv : Value) (xs : List Int) (vu : Value) (u : List Int) (vv : Value) (v : List Int) (vx : Value) (x : List Int) (z : Int) (w : World) (hp : (Lit.int .u64 p).wf = true)
    (_ : (Lit.int .i64 r).wf = true) (_ : (Lit.int .i64 c).wf = true) (hm : Ints .u64 w mv xs) (ux : ∀ x ∈ xs, (Lit.int .u64 x).wf = true) (hu : Ints .u64 w vu u) (uu : ∀ x ∈ u, (Lit.int .u64 x).wf = true) (hv : Ints .u64 w vv v) (uv : ∀ x ∈ v, (Lit.int .u64 x).wf = true)
    (hx : Ints .u64 w vx x) (uxx : ∀ z ∈ x, (Lit.int .u64 z).wf = true) (hz : (Lit.int .u64 z).wf = true) :
    Calls Tryz.prog 3 #[.int .u64 p, .agg #[.int .i64 r, .int .i64 c, mv], vu, vv, vx, .int .u64 z] w (Ret (.bool true) w) := by
  have hp' := u64_wf hp
  have hz' := u64_wf hz
  have ux' : U64s xs := fun x h => by have := u64_wf (ux x h); omega
  have uu' : U64s u := fun x h => by have := u64_wf (uu x h); omega
  have uv' : U64s v := fun x h => by have := u64_wf (uv x h); omega
  have uxx' : U64s x := fun z h => by have := u64_wf (uxx z h); omega
  cases h : (decide (xs.length ≤ 25) && (takenB p && (matB p r c xs && (decide (r = c) && decide (z < p))))) with
  | false => exact walk_skip p r c mv vu vv vx xs z w (by omega) (by omega) hm ux' h
  | true =>
    simp only [Bool.and_eq_true, decide_eq_true_eq] at h
    obtain ⟨h1, h2, h3, h4, h5⟩ := h
    obtain ⟨m, n, rfl, rfl, ok⟩ := MatOk.of ux' h3
    have e : m = n := by omega
    subst e
    cases hV : vecB p m u && vecB p m v with
    | false => exact walk_a p m mv vu vv vx xs u v x z w ok h2 h1 h5 hm hu uu' hv uv' hx hV
    | true =>
      rw [Bool.and_eq_true] at hV
      obtain ⟨-, g1, g2⟩ := (vecB_iff uu').1 hV.1
      obtain ⟨-, g3, g4⟩ := (vecB_iff uv').1 hV.2
      exact walk_c p m mv vu vv vx xs u v x z w ok h2 h1 (by omega) h5 hm hu hv hx uxx' g1 g2 g3 g4
theorem own : ownKnob Tryz.prog.godebug = none := by kernel_rfl
set_option maxRecDepth 100000 in
theorem lifted (os : Os) (started : os.Started) (H : Type) (enc : TypeId × Value → H) :
    ReturnsInHanded {} Tryz.checked os 3 .any (Rows.ownHonestSpec.pre6 enc Tryz.prog Tryz.f3 Rows.ownHonestRow.domain false) (Rows.ownHonestSpec.post enc Tryz.prog Tryz.f3 false true false false) := by
  refine returnsInHanded_of_change (C := Tryz.checked) own started (by kernel_rfl) Tryz.func3
    (ChangeSpec.witness6 (enc := enc) (C := Tryz.checked) false ⟨#[], #[.int .u64 0, .agg #[.int .i64 0, .int .i64 0, .slice none 0 0], .slice none 0 0, .slice none 0 0, .slice none 0 0, .int .u64 0], []⟩ 8 (by kernel_rfl) (by kernel_rfl) (by kernel_rfl) (by kernel_rfl)) ?_
  intro W base args ds gs before hval0 hW _ _
  have hval : ∀ (j : Nat) t v, Tryz.f3.params[j]? = some t → args[j]? = some v → Value.okWide Tryz.prog W .any base t v := hval0
  have hW' := hW
  obtain ⟨p, q, hA0, hV, rfl, _, _⟩ := hW
  have hA : DataW.TrodAll enc Tryz.prog W 0 (fun _ => true) true Tryz.f3.params.toList args.toList ds p := hA0
  rw [Tryz.params3] at hA hval
  obtain ⟨v0, vs0, d0, ds0, p0, q0, hargs, rfl, rfl, h0, r0⟩ := trodAll_cons hA
  obtain ⟨v1, vs1, d1, ds1, p1, q1, rfl, rfl, rfl, h1, r1⟩ := trodAll_cons r0
  obtain ⟨v2, vs2, d2, ds2, p2, q2, rfl, rfl, rfl, h2, r2⟩ := trodAll_cons r1
  obtain ⟨v3, vs3, d3, ds3, p3, q3, rfl, rfl, rfl, h3, r3⟩ := trodAll_cons r2
  obtain ⟨v4, vs4, d4, ds4, p4, q4, rfl, rfl, rfl, h4, r4⟩ := trodAll_cons r3
  obtain ⟨v5, vs5, d5, ds5, p5, q5, rfl, rfl, rfl, h5, r5⟩ := trodAll_cons r4
  obtain ⟨rfl, rfl, rfl⟩ := trodAll_nil r5
  obtain rfl : args = #[v0, v1, v2, v3, v4, v5] := by cases args; simp_all
  obtain ⟨rfl, rfl⟩ := trodVars_none hV
  obtain ⟨a0, rfl, rfl, rfl, w0⟩ := open_int Tryz.underlying22 (hval 0 22 v0 rfl rfl) h0
  obtain ⟨mr1, mc1, mu1, xs1, rfl, wr1, wc1, i1, w1⟩ := open_Mat (hval 1 25 v1 rfl rfl) h1
  obtain ⟨xs2, i2, w2⟩ := open_Ints Tryz.underlying23 Tryz.underlying22 (by kernel_rfl) (hval 2 23 v2 rfl rfl) h2
  obtain ⟨xs3, i3, w3⟩ := open_Ints Tryz.underlying23 Tryz.underlying22 (by kernel_rfl) (hval 3 23 v3 rfl rfl) h3
  obtain ⟨xs4, i4, w4⟩ := open_Ints Tryz.underlying23 Tryz.underlying22 (by kernel_rfl) (hval 4 23 v4 rfl rfl) h4
  obtain ⟨a5, rfl, rfl, rfl, w5⟩ := open_int Tryz.underlying22 (hval 5 22 v5 rfl rfl) h5
  refine (walk a0 mr1 mc1 mu1 xs1 v2 xs2 v3 xs3 v4 xs4 a5 W w0 wr1 wc1 i1 w1 i2 w2 i3 w3 i4 w4 w5).mono fun e W' ⟨he, hg⟩ => ⟨_, he, ?_⟩
  exact law_post (by kernel_rfl) (by kernel_rfl) rfl Tryz.underlying4 rfl rfl hW' hg

/-- the statement -/
theorem proved : Rows.OwnHonestSaid :=
  OpenClaim.holds_of_wide 3 Tryz.f3 rfl rfl rfl rfl rfl rfl rfl ⟨rfl, rfl, rfl, rfl, rfl⟩ rfl rfl rfl rfl rfl (by kernel_rfl) Tryz.func3 (by kernel_rfl)
    (of_decide_eq_true (by kernel_rfl)) (by unfold Func.isWrapper; first | (rw [if_pos (by decide +kernel)]; kernel_rfl) | (rw [if_neg (by decide +kernel)]; exact ⟨rfl, rfl⟩))
    (fun os started H enc _ => lifted os started H enc)
end Go.Proofs.YtijpeepdedfhoaaGreat.ownHonest
