/- CupProducts: whatever the number, the matrices, the row and the factor, the law answers true, and nothing that was there has turned. No condition. -/
import Derived.Test.YtlcempbeecdimaaCupProdA
namespace Go.Proofs.Ytlcempbeecdimaa.cupProducts
open Go.ChangeShapes Go.WideShapes Go.ChangeAt Go.RowKit Go.Maps

set_option maxRecDepth 100000 in
set_option maxHeartbeats 4000000 in
theorem walk_sq (p : Int) (n : Nat) (v u : Value) (xs ys : List Int) (row x : Int) (w : World) (ok : MatOk p n n xs) (oky : MatOk p n n ys) (hf : Fld p) (hs : smB p n n xs 100 = true) (hs' : smB p n n ys 100 = true) (hx0 : 0 ≤ x) (hxp : x < p) (hrow : 0 ≤ row ∧ row ≤ 255) (hv : Ints .u64 w v xs) (hu : Ints .u64 w u ys) :
    Calls Try.prog 6 #[.int .u64 p, matV n n v, matV n n u, .int .u8 row, .int .u64 x] w (Ret (.bool true) w) := by
  have hp2 := rightB_true ok.hp
  have C1 := hid fun (W : World) (hW : Ext w W) => (hs ▸ small07 p n n v xs 100 W (by omega) (by omega) (hv.ext hW) ok.u64 : Calls Try.prog 13 #[.int .u64 p, matV n n v, .int .i64 (100 : Nat)] W (Ret (.bool true) W))
  have C2 := hid fun (W : World) (hW : Ext w W) => (hs' ▸ small07 p n n u ys 100 W (by omega) (by omega) (hu.ext hW) oky.u64 : Calls Try.prog 13 #[.int .u64 p, matV n n u, .int .i64 (100 : Nat)] W (Ret (.bool true) W))
  have C3 := hid fun (W : World) (hW : Ext w W) => mxMul_yes p n n n v u xs ys W ok oky (hv.ext hW) (hu.ext hW)
  have C4 := hid fun (W : World) (hW : Ext w W) => cmRank p n n v xs W ok hf (hv.ext hW)
  have C5 := hid fun (W : World) (hW : Ext w W) => cmRank p n n u ys W oky hf (hu.ext hW)
  have okM : MatOk p n n (mulL p n n n xs ys) := ⟨ok.hp, mulL_rng hp2.1 n n n xs ys, ok.hm, oky.hn, mulL_len n n n xs ys⟩
  have C6 := hid fun (W : World) (z : Value) (hz : Ints .u64 W z (mulL p n n n xs ys)) => cmRank p n n z (mulL p n n n xs ys) W okM hf hz
  obtain ⟨r1, r2, r3⟩ := rank_mul (m := n) (k := n) (q := n) hp2.1 hf ok.hx oky.hx
  have l1 := (takeL_ok (m := n) (n := n) hp2.1 hf ok.hx).le
  have l2 := (takeL_ok (m := n) (n := n) hp2.1 hf oky.hx).le
  have l3 := (takeL_ok (m := n) (n := n) hp2.1 hf okM.hx).le
  have D7 := hid fun (W : World) (hW : Ext w W) => det_call ok hf W v (hv.ext hW)
  have D8 := hid fun (W : World) (hW : Ext w W) => det_call oky hf W u (hu.ext hW)
  have D9 := hid fun (W : World) (z : Value) (hz : Ints .u64 W z (mulL p n n n xs ys)) => det_call okM hf W z hz
  have CD := hid fun (W : World) (z : Value) (zs : List Int) (okz : MatOk p n n zs) (hz : Ints .u64 W z zs) => det_call okz hf W z hz
  have hprod := det_product (n := n) (xs := xs) (ys := ys) hp2.1 hf ok.hx
  have HSC := hid fun (i : Nat) (zs : List Int) (hi : i < n) => det_scaled (p := p) (n := n) (xs := xs) (i := i) (c := x) (zs := zs) hi
  have bA := mod_range (p := p) (detF n (atF n xs)) hp2.1
  have bB := mod_range (p := p) (detF n (atF n ys)) hp2.1
  generalize detF n (atF n xs) % p = DA at D7 hprod HSC bA
  generalize detF n (atF n ys) % p = DB at D8 hprod bB
  generalize detF n (atF n (mulL p n n n xs ys)) % p = DM at D9 hprod
  have HDM := hid hprod.symm
  obtain ⟨DX, eDX⟩ : ∃ DX, DA * x % p = DX := ⟨_, rfl⟩
  have HDX := hid eDX
  simp only [eDX] at HSC
  clear hprod eDX
  obtain ⟨cu, rfl⟩ := Int.eq_ofNat_of_zero_le hrow.1
  obtain ⟨i, hU0⟩ : ∃ i, cu % n = i := ⟨_, rfl⟩
  have hin : i < n := by rw [← hU0]; exact Nat.mod_lt _ ok.hm.1
  have hU2 : (cu : Int) % (n : Int) = (i : Int) := by rw [← hU0]; rfl
  have hU1 : (cu : Int).tmod (n : Int) = (i : Int) := by rw [Int.tmod_eq_emod_of_nonneg hrow.1]; exact hU2
  have hm0 : ((n : Int) == 0) = false := by rw [beq_eq_false_iff_ne]; have := ok.hm; omega
  have bM : (DM != DM) = false := by simp
  clear hU0
  obtain ⟨i0, hi, hz0, hz1, hz2⟩ := info_parts info_u64p
  unfold matV at D7 D8 CD
  generalize (takeL p n n (mulL p n n n xs ys)).U.length = RM at C6 r1 r2 r3 l3
  generalize hRA : (takeL p n n xs).U.length = RA at C4 r1 r3 l1
  generalize hRB : (takeL p n n ys).U.length = RB at C5 r2 r3 l2
  have hm := ok.hm; have hk := ok.hn; have hq := oky.hn
  have g1 : decide (RA < RM) = false := decide_eq_false (by omega)
  have g2 : decide (RB < RM) = false := decide_eq_false (by omega)
  have g3 : decide (RM + n < RA + RB) = false := decide_eq_false (by omega)
  have g1' : decide ((RA : Int) < (RM : Int)) = false := decide_eq_false (by omega)
  have g2' : decide ((RB : Int) < (RM : Int)) = false := decide_eq_false (by omega)
  have g3' : decide ((RM : Int) + (n : Int) < (RA : Int) + (RB : Int)) = false := decide_eq_false (by omega)
  have gk : ((n : Int) != (n : Int)) = false := by simp
  have gx : decide (p ≤ x) = false := decide_eq_false (by omega)
  have HP := hid ok.hp; have HV := hid hv; have HU := hid hu; have Hxl := hid ok.hl; have HXR := hid ok.hx
  have hLb : xs.length ≤ 4096 := by rw [ok.hl]; exact Nat.mul_le_mul hm.2 hk.2
  generalize mulL p n n n xs ys = MS at C3 C6 D9
  clear okM hs hs' hRA hRB ok oky hf
  obtain ⟨a, cap, rfl, k1, k2, k3⟩ := hv
  obtain ⟨a', cap', rfl, k1', k2', k3'⟩ := hu
  clear k3'
  obtain ⟨b, off, rfl, hbl, hcl⟩ := k3 (by rw [Hxl.out]; exact Nat.mul_pos hm.1 hk.1)
  have HCell := hid fun (j : Nat) (hj : j < xs.length) (V : World) (hV : Ext w V) => (hV.cells _ _ hbl).trans (hcl j hj)
  clear hcl
  clear k3
  have hb2 := hid (boxes2 w 25 25 #[.int .i64 (n : Int), .int .i64 (n : Int), .slice (some ⟨b, off, none⟩) xs.length cap] #[.int .i64 (n : Int), .int .i64 (n : Int), .slice a' ys.length cap'])
  have HA := hid hb2.out.1; have HB := hid hb2.out.2.1; have hW0 := hid hb2.out.2.2
  clear hb2
  unfold matV at C1 C2 C4 C5 C6 D9
  unfold RetN matV at C3
  unfold matV
  go_enter Try.func6, Try.ntmps6
  go_wp2_with fail
  refine (awake07 _).mono ?_
  rintro _ w1 ⟨rfl, xw1⟩
  obtain ⟨ha_0, ha_1, ha_2⟩ := (HA.out.ext xw1).at3
  go_wp2_with fail
  refine (C1.out _ (hW0.out.trans xw1)).mono ?_
  rintro _ w2 ⟨rfl, xw2⟩
  clear ha_0 ha_1 ha_2
  obtain ⟨hb_0, hb_1, hb_2⟩ := (HB.out.ext (xw1.trans xw2)).at3
  go_wp2_with fail
  refine (C2.out _ (hW0.out.trans (xw1.trans xw2))).mono ?_
  rintro _ w3 ⟨rfl, xw3⟩
  clear hb_0 hb_1 hb_2
  obtain ⟨ha_0, ha_1, ha_2⟩ := (HA.out.ext (xw1.trans (xw2.trans xw3))).at3
  obtain ⟨hb_0, hb_1, hb_2⟩ := (HB.out.ext (xw1.trans (xw2.trans xw3))).at3
  go_wp2_with fail
  refine (C3.out _ (hW0.out.trans (xw1.trans (xw2.trans xw3)))).mono ?_
  rintro _ w4 ⟨vM, rfl, iM, xw4⟩
  clear ha_0 ha_1 ha_2 hb_0 hb_1 hb_2
  have IM := hid iM
  obtain ⟨aM, kM, rfl, _, _, kk⟩ := iM
  clear kk
  have z6 := (Ext.refl w4).alloc (.cells #[.int .i64 (n : Int), .int .i64 (n : Int), .slice aM MS.length kM] 25)
  have HM := hid (Blk.new w4 25 #[.int .i64 (n : Int), .int .i64 (n : Int), .slice aM MS.length kM])
  obtain ⟨ha_0, ha_1, ha_2⟩ := (HA.out.ext (xw1.trans (xw2.trans (xw3.trans (xw4.trans z6))))).at3
  go_wp2_with fail
  refine (C4.out _ (hW0.out.trans (xw1.trans (xw2.trans (xw3.trans (xw4.trans z6)))))).mono ?_
  rintro _ w5 ⟨rfl, xw5⟩
  clear ha_0 ha_1 ha_2
  obtain ⟨hb_0, hb_1, hb_2⟩ := (HB.out.ext (xw1.trans (xw2.trans (xw3.trans (xw4.trans (z6.trans xw5)))))).at3
  go_wp2_with fail
  refine (C5.out _ (hW0.out.trans (xw1.trans (xw2.trans (xw3.trans (xw4.trans (z6.trans xw5))))))).mono ?_
  rintro _ w6 ⟨rfl, xw6⟩
  clear hb_0 hb_1 hb_2
  obtain ⟨hm_0, hm_1, hm_2⟩ := (HM.out.ext (xw5.trans xw6)).at3
  go_wp2_with fail
  refine (C6.out _ _ (IM.out.ext (z6.trans (xw5.trans xw6)))).mono ?_
  rintro _ w7 ⟨rfl, xw7⟩
  clear hm_0 hm_1 hm_2
  obtain ⟨ha_0, ha_1, ha_2⟩ := (HA.out.ext (xw1.trans (xw2.trans (xw3.trans (xw4.trans (z6.trans (xw5.trans (xw6.trans xw7)))))))).at3
  obtain ⟨hb_0, hb_1, hb_2⟩ := (HB.out.ext (xw1.trans (xw2.trans (xw3.trans (xw4.trans (z6.trans (xw5.trans (xw6.trans xw7)))))))).at3
  go_wp2_with fail
  refine (D7.out _ (hW0.out.trans (xw1.trans (xw2.trans (xw3.trans (xw4.trans (z6.trans (xw5.trans (xw6.trans xw7))))))))).mono ?_
  rintro _ w8 ⟨rfl, xw8⟩
  clear ha_0 ha_1 ha_2 hb_0 hb_1 hb_2
  obtain ⟨hb_0, hb_1, hb_2⟩ := (HB.out.ext (xw1.trans (xw2.trans (xw3.trans (xw4.trans (z6.trans (xw5.trans (xw6.trans (xw7.trans xw8))))))))).at3
  go_wp2_with fail
  refine (D8.out _ (hW0.out.trans (xw1.trans (xw2.trans (xw3.trans (xw4.trans (z6.trans (xw5.trans (xw6.trans (xw7.trans xw8)))))))))).mono ?_
  rintro _ w9 ⟨rfl, xw9⟩
  clear hb_0 hb_1 hb_2
  obtain ⟨hm_0, hm_1, hm_2⟩ := (HM.out.ext (xw5.trans (xw6.trans (xw7.trans (xw8.trans xw9))))).at3
  go_wp2_with fail
  refine (D9.out _ _ (IM.out.ext (z6.trans (xw5.trans (xw6.trans (xw7.trans (xw8.trans xw9))))))).mono ?_
  rintro _ w10 ⟨rfl, xw10⟩
  clear hm_0 hm_1 hm_2
  go_wp2_with fail
  refine (mul_as p DA DB DM _ HP.out bA.1 bA.2 bB.1 bB.2 HDM.out).mono ?_
  rintro _ w11 ⟨rfl, xw11⟩
  have EW := hid (show Ext w w11 from (hW0.out.trans (xw1.trans (xw2.trans (xw3.trans (xw4.trans (z6.trans (xw5.trans (xw6.trans (xw7.trans (xw8.trans (xw9.trans (xw10.trans xw11)))))))))))))
  have HAW := hid (HA.out.ext (xw1.trans (xw2.trans (xw3.trans (xw4.trans (z6.trans (xw5.trans (xw6.trans (xw7.trans (xw8.trans (xw9.trans (xw10.trans xw11))))))))))))
  clear HB HM IM D7 D8 D9 C1 C2 C3 C4 C5 C6
  rename World => W
  obtain ⟨ha_0, ha_1, ha_2⟩ := HAW.out.at3
  have fs := hid (fun (V : World) (hV : Ext W V) => (HAW.out.ext hV).at3)
  have hXS := hid (HV.out.ext EW.out)
  have Hown0 := hid (World.ownsRow_lit (base := W.heap.size) (e := 22) (size := 1) W.drew #[] 0 (Nat.le_refl _) (by simp [maxLen]) rfl)
  have Hown2 := hid (show ((W.drew.alloc (.cells #[.int .i64 0, .int .i64 0, .slice none 0 0] 25)).alloc (.cells #[] 22)).ownsRow W.heap.size 22 1 (.slice (some ⟨W.heap.size + 1, 0, none⟩) 0 0) 0 [] from by
    have h := World.ownsRow_lit (base := W.heap.size) (e := 22) (size := 1) (W.drew.alloc (.cells #[.int .i64 0, .int .i64 0, .slice none 0 0] 25)) #[] 0 (by simp) (by simp [maxLen]) rfl
    rwa [alloc_size] at h)
  have hxa : Ext W (W.drew.alloc (.cells #[] 22)) := (Ext.refl W).drew.alloc _
  have hxb : Ext W ((W.drew.alloc (.cells #[] 22)).alloc (.cells #[.int .i64 0, .int .i64 0, .slice none 0 0] 25)) := hxa.alloc _
  have hxc : Ext W (W.drew.alloc (.cells #[.int .i64 0, .int .i64 0, .slice none 0 0] 25)) := (Ext.refl W).drew.alloc _
  have hxd : Ext W ((W.drew.alloc (.cells #[.int .i64 0, .int .i64 0, .slice none 0 0] 25)).alloc (.cells #[] 22)) := hxc.alloc _
  have hBb := hid (Blk.at_ (w := W.drew.alloc (.cells #[] 22)) (t := 25) (cs := #[.int .i64 0, .int .i64 0, .slice none 0 0]) (g := W.heap.size + 1) (by rw [alloc_size]; rfl))
  have hBd := hid ((Blk.at_ (w := W.drew) (t := 25) (cs := #[.int .i64 0, .int .i64 0, .slice none 0 0]) (g := W.heap.size) rfl).ext ((Ext.refl _).alloc (.cells #[] 22)))
  have Hln := hid (show (xs.map (Value.int .u64)).length = xs.length * 1 by simp)
  have hL0 : 0 < xs.length := by rw [Hxl.out]; exact Nat.mul_pos hm.1 hk.1
  go_upto_region 20 with fail
  go_cut [28] from 162 to 170 (fun s w' => ∃ h g c : Nat, s = .pointer (some ⟨h, 0, none⟩) ∧ xs.length ≤ c ∧ c ≤ 9223372036854775807 ∧ UndC W w' h g xs.length c n n xs)
  case first =>
    go_region_held3 (fun w' => w'.cell? ⟨w.heap.size, 0, none⟩ = some (.int .i64 (n : Int)) ∧ w'.cell? ⟨w.heap.size, 1, none⟩ = some (.int .i64 (n : Int)) ∧ w'.cell? ⟨w.heap.size, 2, none⟩ = some (.slice (some ⟨b, off, none⟩) xs.length cap)) (first | assumption | (refine fs.out _ ?_; repeat (first | assumption | with_reducible exact Ext.refl _ | with_reducible refine Ext.drew ?_ | with_reducible refine Ext.alloc ?_ _ | with_reducible refine Ext.setCell ?_ (by first | assumption | (simp; done)) _)))
      ((first
        | (refine step_append_at _ rfl (.tmp 166) (.tmp 168) 23 rfl W.heap.size 22 i0 (.int .u64 0) 1 8 Try.underlying23 hi hz0 hz1 hz2 rfl (by decide) (.slice (some ⟨W.heap.size, 0, none⟩) 0 0) 0 [] (by simp [Act.eval]) Hown0.out ⟨b, off, none⟩ xs.length cap (xs.map (Value.int .u64)) (by simp [Act.eval]) Hln.out (ints_news (hXS.out.ext hxa)) ints_one (by simp only [maxLen]; omega) (by omega) (by first | (simp; done) | (simp; omega)) ?_
           intro v1 W3 hown1 hgrow1 hat1
           have hx3 : Ext W W3 := hxa.grown hgrow1 (fun k e => by simp [Value.ownBlock] at e; omega)
           have hge : W.heap.size ≤ W3.heap.size := hx3.size
           have hown3 : W3.ownsRow W.heap.size 22 1 v1 xs.length (xs.map (Value.int .u64)) := by simpa using hown1
           obtain ⟨va, vc, rfl, q1, q2, q3, q4⟩ := WRow.of_owns hown3
           obtain ⟨g, rfl, hgW, hrow⟩ := q4 hL0
           clear q3 q4)
        | (refine step_append_at _ rfl (.tmp 166) (.tmp 168) 23 rfl W.heap.size 22 i0 (.int .u64 0) 1 8 Try.underlying23 hi hz0 hz1 hz2 rfl (by decide) (.slice (some ⟨W.heap.size, 0, none⟩) 0 0) 0 [] (by simp [Act.eval]) (Hown0.out.alloc _) ⟨b, off, none⟩ xs.length cap (xs.map (Value.int .u64)) (by simp [Act.eval]) Hln.out (ints_news (hXS.out.ext hxb)) ints_one (by simp only [maxLen]; omega) (by omega) (by first | (simp; done) | (simp; omega)) ?_
           intro v1 W3 hown1 hgrow1 hat1
           have hx3 : Ext W W3 := hxb.grown hgrow1 (fun k e => by simp [Value.ownBlock] at e; omega)
           have hge : W.heap.size ≤ W3.heap.size := hx3.size
           have hown3 : W3.ownsRow W.heap.size 22 1 v1 xs.length (xs.map (Value.int .u64)) := by simpa using hown1
           obtain ⟨va, vc, rfl, q1, q2, q3, q4⟩ := WRow.of_owns hown3
           obtain ⟨g, rfl, hgW, hrow⟩ := q4 hL0
           clear q3 q4
           have hbx := hid (show Blk W3 (W.heap.size + 1) 25 #[.int .i64 0, .int .i64 0, .slice none 0 0] from (hBb.out).grown hgrow1 (by simp [Value.ownBlock]))
           obtain ⟨y0, y1, y2⟩ := hbx.out.at3
           have f0 := hbx.out.frozen 0
           have f1 := hbx.out.frozen 1
           have f2 := hbx.out.frozen 2
           have hgne : g ≠ W.heap.size + 1 := by
             rcases ownsRow_blk hown3 hbx.out (by decide) with e | e
             · simp [Value.ownBlock] at e
             · exact fun e2 => e (by simp [Value.ownBlock, e2]))
        | (refine step_append_at _ rfl (.tmp 166) (.tmp 168) 23 rfl W.heap.size 22 i0 (.int .u64 0) 1 8 Try.underlying23 hi hz0 hz1 hz2 rfl (by decide) (.slice (some ⟨W.heap.size + 1, 0, none⟩) 0 0) 0 [] (by simp [Act.eval]) Hown2.out ⟨b, off, none⟩ xs.length cap (xs.map (Value.int .u64)) (by simp [Act.eval]) Hln.out (ints_news (hXS.out.ext hxd)) ints_one (by simp only [maxLen]; omega) (by omega) (by first | (simp; done) | (simp; omega)) ?_
           intro v1 W3 hown1 hgrow1 hat1
           have hx3 : Ext W W3 := hxd.grown hgrow1 (fun k e => by simp [Value.ownBlock] at e; omega)
           have hge : W.heap.size ≤ W3.heap.size := hx3.size
           have hown3 : W3.ownsRow W.heap.size 22 1 v1 xs.length (xs.map (Value.int .u64)) := by simpa using hown1
           obtain ⟨va, vc, rfl, q1, q2, q3, q4⟩ := WRow.of_owns hown3
           obtain ⟨g, rfl, hgW, hrow⟩ := q4 hL0
           clear q3 q4
           have hbx := hid (show Blk W3 (W.heap.size) 25 #[.int .i64 0, .int .i64 0, .slice none 0 0] from (hBd.out).grown hgrow1 (by simp [Value.ownBlock]))
           obtain ⟨y0, y1, y2⟩ := hbx.out.at3
           have f0 := hbx.out.frozen 0
           have f1 := hbx.out.frozen 1
           have f2 := hbx.out.frozen 2
           have hgne : g ≠ W.heap.size := by
             rcases ownsRow_blk hown3 hbx.out (by decide) with e | e
             · simp [Value.ownBlock] at e
             · exact fun e2 => e (by simp [Value.ownBlock, e2]))))
    all_goals
      go_wp2_with fail
      go_meet
      first
        | exact ⟨_, _, _, rfl, q1, q2, UndC.born' hrow rfl hx3 hgW⟩
        | exact ⟨_, _, _, rfl, q1, q2, UndC.born hbx.out hrow rfl hx3 hgW (by omega) hgne⟩
  case rest =>
    obtain ⟨hB, g, cc, rfl, q1, q2, hu0⟩ := hcut
    rename World => Wc
    have HU0 := hid hu0
    clear hu0 Hown0 Hown2 hxa hxb hxc hxd hBb hBd Hln ha_0 ha_1 ha_2 fs
    obtain ⟨qn, hqn⟩ : ∃ q, i * n = q := ⟨_, rfl⟩
    have hqi : (i : Int) * (n : Int) = (qn : Int) := by rw [← hqn]; push_cast; rfl
    have hql : qn + n ≤ xs.length := by rw [Hxl.out, ← hqn, ← Nat.succ_mul]; exact Nat.mul_le_mul_right _ hin
    have hqw : IntKind.i64.wrap (qn : Int) = (qn : Int) := IntWalk.i64_in _ (by omega)
    have Hqn := hid hqn
    clear hqn
    go_wp2_with fail
    go_loopw [29] (fun kv wr => ∃ (k : Nat) (l : List Int), kv = .int .i64 k ∧ k ≤ n ∧ Hid (UndC W wr hB g xs.length cc n n l) ∧ Hid (Rng p l) ∧ Hid (∀ a b, a < n → b < n → l.getD (a * n + b) 0 = if a = i ∧ b < k then xs.getD (i * n + b) 0 * x % p else xs.getD (a * n + b) 0)) (fun kv _ => n - (intOf kv).toNat)
    case atStart => exact ⟨0, xs, rfl, Nat.zero_le _, HU0, HXR, hid (fun a b _ _ => by rw [if_neg (by omega)])⟩
    case round =>
      obtain ⟨k, l, rfl, hkn, HUl, HRl, HC⟩ := hrel
      rename World => W7
      have x7 := hid HUl.out.ext
      obtain ⟨ha_0, ha_1, ha_2⟩ := (HAW.out.ext x7.out).at3
      obtain ⟨c0, c1, c2⟩ := HUl.out.box.at3
      by_cases hlt : k < n
      · obtain ⟨t, ht⟩ : ∃ t, qn + k = t := ⟨_, rfl⟩
        have htl : t < xs.length := by omega
        have hti : (qn : Int) + (k : Int) = (t : Int) := by omega
        have htw : IntKind.i64.wrap (t : Int) = (t : Int) := IntWalk.i64_in _ (by omega)
        have hti2 : (t : Int) < (xs.length : Int) := by omega
        have hti0 : (0 : Int) ≤ (t : Int) := by omega
        obtain ⟨gz, fz⟩ := HUl.out.at_ htl
        have hz := HC.out i k hin hlt
        rw [if_neg (by omega), Hqn.out, ht] at hz
        have hzr := HXR.out.getD hp2.1 t
        rw [hz] at gz
        obtain ⟨z, ez⟩ : ∃ z, xs.getD t 0 = z := ⟨_, rfl⟩
        rw [ez] at gz hzr
        obtain ⟨y, ey, hy0, hy1⟩ := name_mod (p := p) (z * x) hp2.1
        have Ez := hid ez; have Ey := hid ey; have Ht := hid ht
        have fs7 := hid fun (V : World) (hV : Ext W7 V) => And.intro (HAW.out.ext (x7.out.trans hV)).at3.2.1 (HUl.out.ext' hV).box.at3.2.2
        have fs8 := hid fun (V : World) (hV : Ext W7 V) => And.intro (HAW.out.ext ((x7.out.trans hV).setCell (p := ⟨g, t, none⟩) HUl.out.hg (.int .u64 y))).at3.2.1 ((HUl.out.ext' hV).put htl y).box.at3.2.2
        clear hz ez ey ht
        go_wp2_with fail
        refine wp_region_held_drew (S := fun w' => w'.cell? ⟨w.heap.size, 1, none⟩ = some (.int .i64 (n : Int)) ∧ w'.cell? ⟨hB, 2, none⟩ = some (.slice (some ⟨g, 0, none⟩) xs.length cc)) (by kernel_rfl) (fs7.out _ ((Ext.refl W7).drew)) (fun hHeld => ?_)
        refine wpAnyH_take (i := 0) (v := .pointer (some ⟨hB, 2, none⟩)) rfl (by kernel_rfl) (by kernel_rfl) (by kernel_rfl) (fun _ _ _ h => h) (Or.inl ⟨by rfl, ?_⟩) hHeld ?_
        · intro W' hSw
          obtain ⟨s1, s2⟩ := hSw
          go_simp
        refine wpAnyH_take (i := 1) (v := .slice (some ⟨g, 0, none⟩) xs.length cc) rfl (by kernel_rfl) (by kernel_rfl) (by kernel_rfl) (fun _ _ _ h => h) (Or.inl ⟨by rfl, ?_⟩) hHeld ?_
        · intro W' hSw
          obtain ⟨s1, s2⟩ := hSw
          go_simp
        refine wpAnyH_take (i := 2) (v := .int .i64 (i : Int)) rfl (by kernel_rfl) (by kernel_rfl) (by kernel_rfl) (fun _ _ _ h => h) (Or.inl ⟨by rfl, ?_⟩) hHeld ?_
        · intro W' hSw
          obtain ⟨s1, s2⟩ := hSw
          go_simp
        refine wpAnyH_take (i := 3) (v := .pointer (some ⟨w.heap.size, 1, none⟩)) rfl (by kernel_rfl) (by kernel_rfl) (by kernel_rfl) (fun _ _ _ h => h) (Or.inl ⟨by rfl, ?_⟩) hHeld ?_
        · intro W' hSw
          obtain ⟨s1, s2⟩ := hSw
          go_simp
        refine wpAnyH_take (i := 4) (v := .int .i64 (n : Int)) rfl (by kernel_rfl) (by kernel_rfl) (by kernel_rfl) (fun _ _ _ h => h) (Or.inl ⟨by rfl, ?_⟩) hHeld ?_
        · intro W' hSw
          obtain ⟨s1, s2⟩ := hSw
          go_simp
        refine wpAnyH_take (i := 5) (v := .int .i64 (qn : Int)) rfl (by kernel_rfl) (by kernel_rfl) (by kernel_rfl) (fun _ _ _ h => h) (Or.inl ⟨by rfl, ?_⟩) hHeld ?_
        · intro W' hSw
          obtain ⟨s1, s2⟩ := hSw
          go_simp
        refine wpAnyH_take (i := 6) (v := .int .i64 (k : Int)) rfl (by kernel_rfl) (by kernel_rfl) (by kernel_rfl) (fun _ _ _ h => h) (Or.inl ⟨by rfl, ?_⟩) hHeld ?_
        · intro W' hSw
          obtain ⟨s1, s2⟩ := hSw
          go_simp
        refine wpAnyH_take (i := 7) (v := .int .i64 (t : Int)) rfl (by kernel_rfl) (by kernel_rfl) (by kernel_rfl) (fun _ _ _ h => h) (Or.inl ⟨by rfl, ?_⟩) hHeld ?_
        · intro W' hSw
          obtain ⟨s1, s2⟩ := hSw
          go_simp
        refine wpAnyH_take (i := 8) (v := .int .u64 p) rfl (by kernel_rfl) (by kernel_rfl) (by kernel_rfl) (fun _ _ _ h => h) (Or.inl ⟨by rfl, ?_⟩) hHeld ?_
        · intro W' hSw
          obtain ⟨s1, s2⟩ := hSw
          go_simp
        refine wpAnyH_take (i := 9) (v := .pointer (some ⟨hB, 2, none⟩)) rfl (by kernel_rfl) (by kernel_rfl) (by kernel_rfl) (fun _ _ _ h => h) (Or.inl ⟨by rfl, ?_⟩) hHeld ?_
        · intro W' hSw
          obtain ⟨s1, s2⟩ := hSw
          go_simp
        refine wpAnyH_take (i := 10) (v := .slice (some ⟨g, 0, none⟩) xs.length cc) rfl (by kernel_rfl) (by kernel_rfl) (by kernel_rfl) (fun _ _ _ h => h) (Or.inl ⟨by rfl, ?_⟩) hHeld ?_
        · intro W' hSw
          obtain ⟨s1, s2⟩ := hSw
          go_simp
        refine wpAnyH_take (i := 11) (v := .int .i64 (i : Int)) rfl (by kernel_rfl) (by kernel_rfl) (by kernel_rfl) (fun _ _ _ h => h) (Or.inl ⟨by rfl, ?_⟩) hHeld ?_
        · intro W' hSw
          obtain ⟨s1, s2⟩ := hSw
          go_simp
        refine wpAnyH_take (i := 12) (v := .pointer (some ⟨w.heap.size, 1, none⟩)) rfl (by kernel_rfl) (by kernel_rfl) (by kernel_rfl) (fun _ _ _ h => h) (Or.inl ⟨by rfl, ?_⟩) hHeld ?_
        · intro W' hSw
          obtain ⟨s1, s2⟩ := hSw
          go_simp
        refine wpAnyH_take (i := 13) (v := .int .i64 (n : Int)) rfl (by kernel_rfl) (by kernel_rfl) (by kernel_rfl) (fun _ _ _ h => h) (Or.inl ⟨by rfl, ?_⟩) hHeld ?_
        · intro W' hSw
          obtain ⟨s1, s2⟩ := hSw
          go_simp
        refine wpAnyH_take (i := 14) (v := .int .i64 (qn : Int)) rfl (by kernel_rfl) (by kernel_rfl) (by kernel_rfl) (fun _ _ _ h => h) (Or.inl ⟨by rfl, ?_⟩) hHeld ?_
        · intro W' hSw
          obtain ⟨s1, s2⟩ := hSw
          go_simp
        refine wpAnyH_take (i := 15) (v := .int .i64 (k : Int)) rfl (by kernel_rfl) (by kernel_rfl) (by kernel_rfl) (fun _ _ _ h => h) (Or.inl ⟨by rfl, ?_⟩) hHeld ?_
        · intro W' hSw
          obtain ⟨s1, s2⟩ := hSw
          go_simp
        refine wpAnyH_take (i := 16) (v := .int .i64 (t : Int)) rfl (by kernel_rfl) (by kernel_rfl) (by kernel_rfl) (fun _ _ _ h => h) (Or.inl ⟨by rfl, ?_⟩) hHeld ?_
        · intro W' hSw
          obtain ⟨s1, s2⟩ := hSw
          go_simp
        refine wpAnyH_take (i := 17) (v := .pointer (some ⟨g, t, none⟩)) rfl (by kernel_rfl) (by kernel_rfl) (by kernel_rfl) (fun _ _ _ h => h) (Or.inl ⟨by rfl, ?_⟩) hHeld ?_
        · intro W' hSw
          obtain ⟨s1, s2⟩ := hSw
          go_simp
        refine wpAnyH_take (i := 19) (v := .int .u64 x) rfl (by kernel_rfl) (by kernel_rfl) (by kernel_rfl) (fun _ _ _ h => h) (Or.inl ⟨by rfl, ?_⟩) hHeld ?_
        · intro W' hSw
          obtain ⟨s1, s2⟩ := hSw
          go_simp
        refine held_step 18 (by kernel_rfl) rfl (fun K hK => ?_)
        go_simp
        refine hK.out _ _ hHeld (fun hHeld => ?_)
        clear hK K
        refine held_step 20 (by kernel_rfl) rfl (fun K hK => ?_)
        go_simp
        go_wp2_with fail
        refine (mul_as p z x y _ HP.out hzr.1 hzr.2 hx0 hxp Ey.out).mono ?_
        rintro _ W5 ⟨rfl, x5⟩
        have x57 : Ext W7 W5 := ((Ext.refl W7).drew).trans x5
        obtain ⟨d5, f5⟩ := (HUl.out.ext' x57).at_ htl
        go_wp2_with fail
        refine hK.out _ _ (fs7.out _ x57) (fun hHeld => ?_)
        clear hK K
        refine wpAnyH_take (i := 21) (v := .tuple #[.int .u64 y, .int .i64 0]) rfl (by kernel_rfl) (by kernel_rfl) (by kernel_rfl) (fun _ _ _ h => h) (Or.inl ⟨by rfl, ?_⟩) hHeld ?_
        · intro W' hSw
          obtain ⟨s1, s2⟩ := hSw
          go_simp
        refine wpAnyH_take (i := 22) (v := .int .u64 y) rfl (by kernel_rfl) (by kernel_rfl) (by kernel_rfl) (fun _ _ _ h => h) (Or.inl ⟨by rfl, ?_⟩) hHeld ?_
        · intro W' hSw
          obtain ⟨s1, s2⟩ := hSw
          go_simp
        refine wpAnyH_take (i := 23) (v := .int .i64 0) rfl (by kernel_rfl) (by kernel_rfl) (by kernel_rfl) (fun _ _ _ h => h) (Or.inl ⟨by rfl, ?_⟩) hHeld ?_
        · intro W' hSw
          obtain ⟨s1, s2⟩ := hSw
          go_simp
        refine wpAnyH_take (i := 24) (v := .pointer (some ⟨g, t, none⟩)) rfl (by kernel_rfl) (by kernel_rfl) (by kernel_rfl) (fun _ _ _ h => h) (Or.inl ⟨by rfl, ?_⟩) hHeld ?_
        · intro W' hSw
          obtain ⟨s1, s2⟩ := hSw
          go_simp
        refine held_step 25 (by kernel_rfl) rfl (fun K hK => ?_)
        go_simp
        refine hK.out _ _ (fs8.out _ x57) (fun hHeld => ?_)
        clear hK K
        refine wpAnyH_done (by kernel_rfl) ?_ _
        all_goals
          go_wp2_with fail
          go_roundw
          case rel =>
            refine ⟨k + 1, l.set t y, by go_num, by omega, hid ((HUl.out.ext' x57).put htl y), hid (Rng.set' HRl.out t hy0 hy1), hid (fun a b ha hb => ?_)⟩
            rw [← Ht.out, ← Hqn.out, put_at y hlt hb (by rw [HUl.out.len, Hqn.out, Ht.out]; exact htl)]
            by_cases e : a = i ∧ b = k
            · rw [if_pos e, if_pos ⟨e.1, by omega⟩, e.2, Hqn.out, Ht.out, Ez.out, Ey.out]
            · rw [if_neg e, HC.out a b ha hb]
              by_cases e2 : a = i ∧ b < k
              · rw [if_pos e2, if_pos ⟨e2.1, by omega⟩]
              · rw [if_neg e2, if_neg (fun h => by omega)]
          case measure => simp [intOf]; omega
      · obtain rfl : k = n := by omega
        have okl : MatOk p k k l := ⟨HP.out, HRl.out, hm, hk, by rw [HUl.out.len, Hxl.out]⟩
        have hdl := HSC.out i l hin fun a b ha hb => by
          rw [HC.out a b ha hb]
          by_cases e : a = i
          · rw [if_pos ⟨e, hb⟩, if_pos e]
          · rw [if_neg (fun h => e h.1), if_neg e]
        have CL := hid (CD.out W7 _ l okl (HUl.out.row.ints' HUl.out.len q1 q2))
        rw [hdl] at CL
        have hother := hid fun (j : Nat) (hj : j < k) (hji : j ≠ i) (b : Nat) (hb : b < k) => (show l.getD (j * k + b) 0 = xs.getD (j * k + b) 0 from by rw [HC.out j b hj hb, if_neg (fun h => hji h.1)])
        have bX : (DX != DX) = false := by simp
        clear hdl okl
        go_wp2_with fail
        refine CL.out.mono ?_
        rintro _ W8 ⟨rfl, x8⟩
        go_wp2_with fail
        refine (mul_as p DA x DX _ HP.out bA.1 bA.2 hx0 hxp HDX.out).mono ?_
        rintro _ W9 ⟨rfl, x9⟩
        have x79 := hid (x8.trans x9)
        have x9W := hid (x7.out.trans x79.out)
        clear ha_0 ha_1 ha_2 c0 c1 c2
        obtain ⟨ha_0, ha_1, ha_2⟩ := (HAW.out.ext x9W.out).at3
        by_cases hn2 : k < 2
        · go_wp2_with fail
          go_ret
          exact ⟨rfl, EW.out.trans x9W.out⟩
        · obtain ⟨j, hj0⟩ : ∃ j, (i + 1) % k = j := ⟨_, rfl⟩
          have hjk : j < k := by rw [← hj0]; exact Nat.mod_lt _ hm.1
          have hji : j ≠ i := by
            intro e
            rcases Nat.lt_or_ge (i + 1) k with h | h
            · rw [Nat.mod_eq_of_lt h] at hj0; omega
            · have : i + 1 = k := by omega
              rw [this, Nat.mod_self] at hj0
              omega
          have hj2 : ((i : Int) + 1) % (k : Int) = (j : Int) := by rw [← hj0]; push_cast; rfl
          have hj1 : ((i : Int) + 1).tmod (k : Int) = (j : Int) := by rw [Int.tmod_eq_emod_of_nonneg (by omega)]; exact hj2
          have hiw : IntKind.i64.wrap ((i : Int) + 1) = (i : Int) + 1 := IntWalk.i64_in _ (by omega)
          obtain ⟨qj, hqj⟩ : ∃ q, j * k = q := ⟨_, rfl⟩
          have hqji : (j : Int) * (k : Int) = (qj : Int) := by rw [← hqj]; push_cast; rfl
          have hqjl : qj + k ≤ xs.length := by rw [Hxl.out, ← hqj, ← Nat.succ_mul]; exact Nat.mul_le_mul_right _ hjk
          have hqjw : IntKind.i64.wrap (qj : Int) = (qj : Int) := IntWalk.i64_in _ (by omega)
          have Hqj := hid hqj
          have HUs := hid (HUl.out.ext' x79.out)
          have Hs := hid (hother.out j hjk hji)
          clear hj0 hqj hother
          go_wp2_with fail
          clear ha_0 ha_1 ha_2 hj1 hj2
          go_loopw [35] (fun kv wr => ∃ (e : Nat) (l : List Int), kv = .int .i64 e ∧ e ≤ k ∧ Hid (UndC W wr hB g xs.length cc k k l) ∧ Hid (Rng p l) ∧ Hid (∀ b, b < k → l.getD (j * k + b) 0 = xs.getD (j * k + b) 0) ∧ Hid (∀ b, b < e → l.getD (i * k + b) 0 = xs.getD (j * k + b) 0)) (fun kv _ => k - (intOf kv).toNat)
          case atStart => exact ⟨0, l, rfl, Nat.zero_le _, HUs, HRl, Hs, hid (fun b hb => absurd hb (Nat.not_lt_zero _))⟩
          case round =>
            clear HUs HUl HRl Hs
            obtain ⟨e, l, rfl, hek, HUl, HRl, HS, HE⟩ := hrel
            rename World => W3
            have x3 := hid HUl.out.ext
            obtain ⟨ha_0, ha_1, ha_2⟩ := (HAW.out.ext x3.out).at3
            obtain ⟨c0, c1, c2⟩ := HUl.out.box.at3
            by_cases hlt : e < k
            · obtain ⟨t, ht⟩ : ∃ t, qn + e = t := ⟨_, rfl⟩
              have htl : t < xs.length := by omega
              have hti : (qn : Int) + (e : Int) = (t : Int) := by omega
              have htw : IntKind.i64.wrap (t : Int) = (t : Int) := IntWalk.i64_in _ (by omega)
              have hti2 : (t : Int) < (xs.length : Int) := by omega
              have hti0 : (0 : Int) ≤ (t : Int) := by omega
              obtain ⟨s, hs⟩ : ∃ s, qj + e = s := ⟨_, rfl⟩
              have hsl : s < xs.length := by omega
              have hsi : (qj : Int) + (e : Int) = (s : Int) := by omega
              have hsw : IntKind.i64.wrap (s : Int) = (s : Int) := IntWalk.i64_in _ (by omega)
              have hsi2 : (s : Int) < (xs.length : Int) := by omega
              have hsi0 : (0 : Int) ≤ (s : Int) := by omega
              have gy := HCell.out s hsl W3 (EW.out.trans x3.out)
              have hyr := HXR.out.getD hp2.1 s
              obtain ⟨y, ey⟩ : ∃ y, xs.getD s 0 = y := ⟨_, rfl⟩
              rw [ey] at gy hyr
              obtain ⟨gz, fz⟩ := HUl.out.at_ htl
              have Ey := hid ey; have Ht := hid ht; have Hsn := hid hs
              have fs7 := hid fun (V : World) (hV : Ext W3 V) => And.intro (HAW.out.ext (x3.out.trans hV)).at3.2 (And.intro (HUl.out.ext' hV).box.at3.2.2 (ey ▸ HCell.out s hsl V (EW.out.trans (x3.out.trans hV)) : V.cell? ⟨b, off + s, none⟩ = some (.int .u64 y)))
              have fs8 := hid fun (V' : World) (h' : Ext (W3.setCell ⟨g, t, none⟩ (.int .u64 y)) V') => And.intro (HAW.out.ext ((x3.out.setCell (p := ⟨g, t, none⟩) HUl.out.hg (.int .u64 y)).trans h')).at3.2 (And.intro ((HUl.out.put htl y).ext' h').box.at3.2.2 (ey ▸ HCell.out s hsl V' (EW.out.trans ((x3.out.setCell (p := ⟨g, t, none⟩) HUl.out.hg (.int .u64 y)).trans h')) : V'.cell? ⟨b, off + s, none⟩ = some (.int .u64 y)))
              clear ey ht hs
              go_wp2_with fail
              go_region_held3 (fun w' => (w'.cell? ⟨w.heap.size, 1, none⟩ = some (.int .i64 (k : Int)) ∧ w'.cell? ⟨w.heap.size, 2, none⟩ = some (.slice (some ⟨b, off, none⟩) xs.length cap)) ∧ w'.cell? ⟨hB, 2, none⟩ = some (.slice (some ⟨g, 0, none⟩) xs.length cc) ∧ w'.cell? ⟨b, off + s, none⟩ = some (.int .u64 y)) (first | assumption | (refine fs8.out _ ?_; with_reducible exact (Ext.refl _).drew) | (refine fs7.out _ ?_; first | assumption | exact (Ext.refl W3).drew))
                (fail)
              all_goals
                go_wp2_with fail
                go_roundw
                case rel =>
                  refine ⟨e + 1, l.set t y, by go_num, by omega, hid ((HUl.out.put htl y).ext' (Ext.refl _).drew), hid (Rng.set' HRl.out t hyr.1 hyr.2), hid (fun a ha => ?_), hid (fun a ha => ?_)⟩
                  · rw [← Ht.out, ← Hqn.out, put_at y hlt ha (by rw [HUl.out.len, Hqn.out, Ht.out]; exact htl), if_neg (fun h => hji h.1), HS.out a ha]
                  · rw [← Ht.out, ← Hqn.out, put_at y hlt (show a < k by omega) (by rw [HUl.out.len, Hqn.out, Ht.out]; exact htl)]
                    by_cases e2 : a = e
                    · rw [if_pos ⟨rfl, e2⟩, e2, Hqj.out, Hsn.out, Ey.out]
                    · rw [if_neg (fun h => e2 h.2), HE.out a (by omega)]
                case measure => simp [intOf]; omega
            · obtain rfl : e = k := by omega
              have okl : MatOk p e e l := ⟨HP.out, HRl.out, hm, hk, by rw [HUl.out.len, Hxl.out]⟩
              have hd0 := det_twice (zs := l) hin hjk (Ne.symm hji) fun b hb => by rw [HE.out b hb, HS.out b hb]
              have CL2 := hid (CD.out W3 _ l okl (HUl.out.row.ints' HUl.out.len q1 q2))
              rw [hd0, Int.zero_emod] at CL2
              clear hd0 okl
              go_wp2_with fail
              refine CL2.out.mono ?_
              rintro _ W4 ⟨rfl, x4⟩
              go_wp2_with fail
              go_ret
              exact ⟨rfl, EW.out.trans (x3.out.trans x4)⟩

/-- the law answers true -/
theorem walk (p r c : Int) (v : Value) (xs : List Int) (r' c' : Int) (u : Value) (ys : List Int) (row x : Int) (w : World) (hp : (Lit.int .u64 p).wf = true) (_ : (Lit.int .i64 r).wf = true) (_ : (Lit.int .i64 c).wf = true) (hv : Ints .u64 w v xs) (hx : ∀ x ∈ xs, (Lit.int .u64 x).wf = true)
    (_ : (Lit.int .i64 r').wf = true) (_ : (Lit.int .i64 c').wf = true) (hu : Ints .u64 w u ys) (hy : ∀ x ∈ ys, (Lit.int .u64 x).wf = true) (hrow : (Lit.int .u8 row).wf = true) (hxw : (Lit.int .u64 x).wf = true) :
    Calls Try.prog 6 #[.int .u64 p, .agg #[.int .i64 r, .int .i64 c, v], .agg #[.int .i64 r', .int .i64 c', u], .int .u8 row, .int .u64 x] w (Ret (.bool true) w) := by
  have hx' : U64s xs := fun x h => u64_wf (hx x h)
  have hy' : U64s ys := fun x h => u64_wf (hy x h)
  cases h : (smB p r c xs 100 && (smB p r' c' ys 100 && (decide (c = r') && decide (x < p)))) with
  | false => exact walk_skip p r c r' c' x v u xs ys row w (u64_wf hp).1 (u64_wf hp).2 hv hx' hu hy' h
  | true =>
    simp only [Bool.and_eq_true, decide_eq_true_eq] at h
    obtain ⟨h1, h2, h3, h4⟩ := h
    have g1 := h1
    have g2 := h2
    unfold smB at g1 g2
    simp only [Bool.and_eq_true] at g1 g2
    obtain ⟨m, k, rfl, rfl, ok⟩ := MatOk.of hx' g1.2.2
    obtain ⟨k', q, rfl, rfl, oky⟩ := MatOk.of hy' g2.2.2
    obtain rfl : k = k' := by omega
    by_cases e : m = k ∧ k = q
    · obtain ⟨rfl, rfl⟩ := e
      exact walk_sq p m v u xs ys row x w ok oky (taken_fld g1.2.1) h1 h2 (u64_wf hxw).1 h4 (u8_wf hrow) hv hu
    · exact walk_rect p m k q v u xs ys row x w ok oky (taken_fld g1.2.1) h1 h2 h4 hv hu e

theorem own : ownKnob Try.prog.godebug = none := by kernel_rfl
set_option maxRecDepth 100000 in
theorem lifted (os : Os) (started : os.Started) (H : Type) (enc : TypeId × Value → H) :
    ReturnsInHanded {} Try.checked os 6 .any (Rows.cupProductsSpec.pre6 enc Try.prog Try.f6 Rows.cupProductsRow.domain false) (Rows.cupProductsSpec.post enc Try.prog Try.f6 false true false false) := by
  refine returnsInHanded_of_change (C := Try.checked) own started (by kernel_rfl) Try.func6
    (ChangeSpec.witness6 (enc := enc) (C := Try.checked) false ⟨#[], #[.int .u64 0, .agg #[.int .i64 0, .int .i64 0, .slice none 0 0], .agg #[.int .i64 0, .int .i64 0, .slice none 0 0], .int .u8 0, .int .u64 0], []⟩ 8 (by kernel_rfl) (by kernel_rfl) (by kernel_rfl) (by kernel_rfl)) ?_
  intro W base args ds gs before hval0 hW _ _
  have hval : ∀ (j : Nat) t v, Try.f6.params[j]? = some t → args[j]? = some v → Value.okWide Try.prog W .any base t v := hval0
  have hW' := hW
  obtain ⟨p, q, hA0, hV, rfl, _, _⟩ := hW
  have hA : DataW.TrodAll enc Try.prog W 0 (fun _ => true) true Try.f6.params.toList args.toList ds p := hA0
  rw [Try.params6] at hA hval
  obtain ⟨v0, vs0, d0, ds0, p0, q0, hargs, rfl, rfl, h0, r0⟩ := trodAll_cons hA
  obtain ⟨v1, vs1, d1, ds1, p1, q1, rfl, rfl, rfl, h1, r1⟩ := trodAll_cons r0
  obtain ⟨v2, vs2, d2, ds2, p2, q2, rfl, rfl, rfl, h2, r2⟩ := trodAll_cons r1
  obtain ⟨v3, vs3, d3, ds3, p3, q3, rfl, rfl, rfl, h3, r3⟩ := trodAll_cons r2
  obtain ⟨v4, vs4, d4, ds4, p4, q4, rfl, rfl, rfl, h4, r4⟩ := trodAll_cons r3
  obtain ⟨rfl, rfl, rfl⟩ := trodAll_nil r4
  obtain rfl : args = #[v0, v1, v2, v3, v4] := by cases args; simp_all
  obtain ⟨rfl, rfl⟩ := trodVars_none hV
  obtain ⟨a0, rfl, rfl, rfl, w0⟩ := open_int Try.underlying22 (hval 0 22 v0 rfl rfl) h0
  obtain ⟨mr1, mc1, mu1, xs1, rfl, wr1, wc1, i1, w1⟩ := open_Mat (hval 1 25 v1 rfl rfl) h1
  obtain ⟨mr2, mc2, mu2, xs2, rfl, wr2, wc2, i2, w2⟩ := open_Mat (hval 2 25 v2 rfl rfl) h2
  obtain ⟨a3, rfl, rfl, rfl, w3⟩ := open_int Try.underlying5 (hval 3 5 v3 rfl rfl) h3
  obtain ⟨a4, rfl, rfl, rfl, w4⟩ := open_int Try.underlying22 (hval 4 22 v4 rfl rfl) h4
  refine (walk a0 mr1 mc1 mu1 xs1 mr2 mc2 mu2 xs2 a3 a4 W w0 wr1 wc1 i1 w1 wr2 wc2 i2 w2 w3 w4).mono fun e W' ⟨he, hg⟩ => ⟨_, he, ?_⟩
  exact law_post (by kernel_rfl) (by kernel_rfl) rfl Try.underlying4 rfl rfl hW' hg

/-- the statement -/
theorem proved : Rows.CupProductsSaid :=
  OpenClaim.holds_of_wide 6 Try.f6 rfl rfl rfl rfl rfl rfl rfl ⟨rfl, rfl, rfl, rfl, rfl⟩ rfl rfl rfl rfl rfl (by kernel_rfl) Try.func6 (by kernel_rfl)
    (of_decide_eq_true (by kernel_rfl)) (by unfold Func.isWrapper; first | (rw [if_pos (by decide +kernel)]; kernel_rfl) | (rw [if_neg (by decide +kernel)]; exact ⟨rfl, rfl⟩))
    (fun os started H enc _ => lifted os started H enc)
end Go.Proofs.Ytlcempbeecdimaa.cupProducts
