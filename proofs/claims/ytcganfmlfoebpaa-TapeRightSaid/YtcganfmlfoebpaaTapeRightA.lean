/- TapeRight, where the tape may be read and the number may not be. -/
import Derived.Test.YtcganfmlfoebpaaTpR
import Derived.Test.YtcganfmlfoebpaaAwake10
namespace Go.Proofs.Ytcganfmlfoebpaa.tapeRight
open Go.ChangeShapes Go.WideShapes Go.ChangeAt Go.RowKit Go.Maps

set_option maxRecDepth 100000 in
set_option maxHeartbeats 4000000 in
theorem walk_on_a (p : Int) (K : Nat) (v : Value) (xs : List Int) (n : Int) (x : Int) (w : World) (hp : 0 ≤ p ∧ p ≤ 18446744073709551615) (hv : Ints .u64 w v xs) (hX : U64s xs) (hnw : -9223372036854775808 ≤ n ∧ n ≤ 9223372036854775807) (g : n < 0 ∨ 8192 < n) (hxw : 0 ≤ x ∧ x ≤ 18446744073709551615) (hl : xs.length ≤ 60) (hK : K ≤ xs.length) (eRB : rightB p = true) :
    Calls Try.prog 3 #[.int .u64 p, .agg #[v, .int .i64 K], .int .i64 n, .int .u64 x] w (Ret (.bool true) w) := by
  have eTB : tapeB K xs = true := tapeB_yes (by omega) hK
  obtain ⟨k, ek⟩ : ∃ k : Int, (K : Int) = k := ⟨_, rfl⟩
  have hkw : -9223372036854775808 ≤ k ∧ k ≤ 9223372036854775807 := by omega
  have m1 : dMay p 1 K xs = true := dMay_yes (n := 1) eRB (by omega) hK (by omega)
  have FX := drX_r m1
  have F1 := dr_r (m := 0) (n := 1) m1
  have RD := fun (W : World) (hW : Ext w W) => r10Draw p 0 K v xs W eRB (by omega) (hv.ext hW) hX hK (by omega)
  have RL := fun (W : World) (hW : Ext w W) => r10Left p K v xs W hp.1 hp.2 (hv.ext hW) hX hK
  have FL : leftN p K xs = ((xs.drop K).filter (cntB p)).length := left_yes (by omega) hK
  have m2 := may_n (p := p) (k := (K : Int)) (xs := xs) g
  have F2 := told_off (m := 0) m2
  have F3 := told_off (m := 1) m2
  clear m2
  obtain ⟨X, eX⟩ : ∃ X, r1X p 0 K xs = X := ⟨_, rfl⟩
  obtain ⟨E1, eE1⟩ : ∃ E, rE (goodB p 0) 1 K xs = E := ⟨_, rfl⟩
  obtain ⟨J1, eJ1⟩ : ∃ J, K + used (goodB p 0) 1 (xs.drop K) = J := ⟨_, rfl⟩
  obtain ⟨NL, eNL⟩ : ∃ N, ((xs.drop K).filter (cntB p)).length = N := ⟨_, rfl⟩
  unfold RetR1 tapeV at RD
  unfold tapeV at RL
  rw [show ((0 : Nat) : Int) = 0 from rfl, eX, eE1, eJ1] at RD
  rw [eX] at FX; rw [eE1, eJ1] at F1; rw [eNL] at FL RL
  have F1a : drK p 0 1 K xs = (J1 : Int) := F1.2.1
  have F1b : drE p 0 1 K xs = E1 := F1.2.2
  rw [ek] at eTB FX F1a F1b FL RD RL F2 F3 ⊢
  have C10 := hid fun (W : World) (hW : Ext w W) => (show Calls Try.prog 8 #[.agg #[v, .int .i64 k]] W (Ret (.bool true) W) from eTB ▸ r10Right v k xs W (hv.ext hW))
  have CT := hid fun (W : World) (hW : Ext w W) => tpRightE (B := true) eTB (hv.ext hW)
  obtain ⟨CW, eCW⟩ : ∃ B, cntB p x = B := ⟨_, rfl⟩
  have CC1 := hid fun (W : World) => tpCounts p x W hp.1 hp.2
  have CC2 := hid fun (W : World) => r10Counts p x W hp.1 hp.2 hxw.1 hxw.2
  rw [eCW] at CC1 CC2
  have CS := hid fun (W : World) (u u' : Value) (hu : Ints .u64 W u xs) (hu' : Ints .u64 W u' xs) => same_any u u' xs xs W hu hu'
  rw [decide_eq_true rfl] at CS
  have HV := hid hv
  have D1 := hid fun (W : World) (u : Value) (hu : Ints .u64 W u xs) => tpDrawE hp.1 hp.2 hkw hX (by omega) FX F1a F1b hu
  have D2 := hid fun (W : World) (u : Value) (hu : Ints .u64 W u xs) => tpManyE hp.1 hp.2 hnw hkw hX (by omega) F2.1 F2.2.1 F2.2.2 hu
  have D3 := hid fun (W : World) (u : Value) (hu : Ints .u64 W u xs) => tpOtherE hp.1 hp.2 hnw hkw hX (by omega) F3.1 F3.2.1 F3.2.2 hu
  have DL := hid fun (W : World) (hW : Ext w W) => tpLeftE hp.1 hp.2 hX FL (hv.ext hW)
  have CR := hid fun (W : World) => rRight p W hp.1 hp.2
  rw [eRB] at CR
  have RDH := hid RD; have RLH := hid RL
  unfold RetTd at D1
  unfold RetTp at D2 D3
  obtain ⟨a, cap, rfl, -, -, -⟩ := hv
  have HT := hid (Blk.new w 25 #[.slice a xs.length cap, .int .i64 k])
  have hbC : (CW != CW) = false := by simp
  clear m1 FX F1 F1a F1b F2 F3 FL eTB eRB eCW hX RD RL eX eE1 eJ1 eNL ek hK 
  go_enter Try.func3, Try.ntmps3
  rcases g with g | g
  · have z1 := (Ext.refl w).alloc (.cells #[.slice a xs.length cap, .int .i64 k] 25)
    go_wp2_with fail
    refine (awake10 _).mono ?_
    rintro _ w1 ⟨rfl, xw1⟩
    obtain ⟨ht_0, ht_1⟩ := (HT.out.ext xw1).at2
    go_wp2_with fail
    refine (C10.out _ (z1.trans xw1)).mono ?_
    rintro _ w2 ⟨rfl, xw2⟩
    clear ht_0 ht_1
    obtain ⟨ht_0, ht_1⟩ := (HT.out.ext (xw1.trans xw2)).at2
    go_wp2_with fail
    refine (D1.out _ _ (HV.out.ext (z1.trans (xw1.trans xw2)))).mono ?_
    rintro _ q3 ⟨v3, rfl, i3, xq3⟩
    clear ht_0 ht_1
    have I3 := hid i3
    obtain ⟨a3, c3, rfl, -, -, -⟩ := i3
    have z5 := (Ext.refl q3).alloc (.cells #[.slice a3 xs.length c3, .int .i64 (J1 : Int)] 25)
    have H3 := hid (Blk.new q3 25 #[.slice a3 xs.length c3, .int .i64 (J1 : Int)])
    obtain ⟨ht_0, ht_1⟩ := (HT.out.ext (xw1.trans (xw2.trans (xq3.trans z5)))).at2
    go_wp2_with fail
    refine (D2.out _ _ (HV.out.ext (z1.trans (xw1.trans (xw2.trans (xq3.trans z5)))))).mono ?_
    rintro _ q4 ⟨v4, u4, rfl, j4, i4, xq4⟩
    clear ht_0 ht_1
    have J4 := hid j4
    have I4 := hid i4
    obtain ⟨b4, d4, rfl, -, -, -⟩ := j4
    obtain ⟨a4, c4, rfl, -, -, -⟩ := i4
    have z7 := (Ext.refl q4).alloc (.cells #[.slice a4 xs.length c4, .int .i64 k] 25)
    have H4 := hid (Blk.new q4 25 #[.slice a4 xs.length c4, .int .i64 k])
    obtain ⟨ht_0, ht_1⟩ := (HT.out.ext (xw1.trans (xw2.trans (xq3.trans (z5.trans (xq4.trans z7)))))).at2
    go_wp2_with fail
    refine (D3.out _ _ (HV.out.ext (z1.trans (xw1.trans (xw2.trans (xq3.trans (z5.trans (xq4.trans z7)))))))).mono ?_
    rintro _ q5 ⟨v5, u5, rfl, j5, i5, xq5⟩
    clear ht_0 ht_1
    have J5 := hid j5
    have I5 := hid i5
    obtain ⟨b5, d5, rfl, -, -, -⟩ := j5
    obtain ⟨a5, c5, rfl, -, -, -⟩ := i5
    have z9 := (Ext.refl q5).alloc (.cells #[.slice a5 xs.length c5, .int .i64 k] 25)
    have H5 := hid (Blk.new q5 25 #[.slice a5 xs.length c5, .int .i64 k])
    obtain ⟨ht_0, ht_1⟩ := (HT.out.ext (xw1.trans (xw2.trans (xq3.trans (z5.trans (xq4.trans (z7.trans (xq5.trans z9)))))))).at2
    go_wp2_with fail
    refine (CT.out _ (z1.trans (xw1.trans (xw2.trans (xq3.trans (z5.trans (xq4.trans (z7.trans (xq5.trans z9))))))))).mono ?_
    rintro _ w6 ⟨rfl, xw6⟩
    clear ht_0 ht_1
    go_wp2_with fail
    refine (CC1.out _).mono ?_
    rintro _ _ ⟨rfl, rfl⟩
    go_wp2_with fail
    refine (CC2.out _).mono ?_
    rintro _ _ ⟨rfl, rfl⟩
    obtain ⟨ht_0, ht_1⟩ := (HT.out.ext (xw1.trans (xw2.trans (xq3.trans (z5.trans (xq4.trans (z7.trans (xq5.trans (z9.trans xw6))))))))).at2
    obtain ⟨h3_0, h3_1⟩ := (H3.out.ext (xq4.trans (z7.trans (xq5.trans (z9.trans xw6))))).at2
    go_wp2_with fail
    refine (CS.out _ _ _ (I3.out.ext (z5.trans (xq4.trans (z7.trans (xq5.trans (z9.trans xw6)))))) (HV.out.ext (z1.trans (xw1.trans (xw2.trans (xq3.trans (z5.trans (xq4.trans (z7.trans (xq5.trans (z9.trans xw6))))))))))).mono ?_
    rintro _ w7 ⟨rfl, xw7⟩
    clear ht_0 ht_1 h3_0 h3_1
    obtain ⟨ht_0, ht_1⟩ := (HT.out.ext (xw1.trans (xw2.trans (xq3.trans (z5.trans (xq4.trans (z7.trans (xq5.trans (z9.trans (xw6.trans xw7)))))))))).at2
    obtain ⟨h4_0, h4_1⟩ := (H4.out.ext (xq5.trans (z9.trans (xw6.trans xw7)))).at2
    go_wp2_with fail
    refine (CS.out _ _ _ (I4.out.ext (z7.trans (xq5.trans (z9.trans (xw6.trans xw7))))) (HV.out.ext (z1.trans (xw1.trans (xw2.trans (xq3.trans (z5.trans (xq4.trans (z7.trans (xq5.trans (z9.trans (xw6.trans xw7)))))))))))).mono ?_
    rintro _ w8 ⟨rfl, xw8⟩
    clear ht_0 ht_1 h4_0 h4_1
    obtain ⟨ht_0, ht_1⟩ := (HT.out.ext (xw1.trans (xw2.trans (xq3.trans (z5.trans (xq4.trans (z7.trans (xq5.trans (z9.trans (xw6.trans (xw7.trans xw8))))))))))).at2
    obtain ⟨h5_0, h5_1⟩ := (H5.out.ext (xw6.trans (xw7.trans xw8))).at2
    go_wp2_with fail
    refine (CS.out _ _ _ (I5.out.ext (z9.trans (xw6.trans (xw7.trans xw8)))) (HV.out.ext (z1.trans (xw1.trans (xw2.trans (xq3.trans (z5.trans (xq4.trans (z7.trans (xq5.trans (z9.trans (xw6.trans (xw7.trans xw8))))))))))))).mono ?_
    rintro _ w9 ⟨rfl, xw9⟩
    clear ht_0 ht_1 h5_0 h5_1
    go_wp2_with fail
    refine (CR.out _).mono ?_
    rintro _ _ ⟨rfl, rfl⟩
    obtain ⟨ht_0, ht_1⟩ := (HT.out.ext (xw1.trans (xw2.trans (xq3.trans (z5.trans (xq4.trans (z7.trans (xq5.trans (z9.trans (xw6.trans (xw7.trans (xw8.trans xw9)))))))))))).at2
    obtain ⟨h3_0, h3_1⟩ := (H3.out.ext (xq4.trans (z7.trans (xq5.trans (z9.trans (xw6.trans (xw7.trans (xw8.trans xw9)))))))).at2
    obtain ⟨h4_0, h4_1⟩ := (H4.out.ext (xq5.trans (z9.trans (xw6.trans (xw7.trans (xw8.trans xw9)))))).at2
    obtain ⟨h5_0, h5_1⟩ := (H5.out.ext (xw6.trans (xw7.trans (xw8.trans xw9)))).at2
    go_wp2_with fail
    refine (RDH.out _ (z1.trans (xw1.trans (xw2.trans (xq3.trans (z5.trans (xq4.trans (z7.trans (xq5.trans (z9.trans (xw6.trans (xw7.trans (xw8.trans xw9))))))))))))).mono ?_
    rintro _ wa ⟨rfl, xwa⟩
    clear ht_0 ht_1 h3_0 h3_1 h4_0 h4_1 h5_0 h5_1
    have z15 := (Ext.refl wa).alloc (.cells #[.slice a xs.length cap, .int .i64 (J1 : Int)] 25)
    have H6 := hid (Blk.new wa 25 #[.slice a xs.length cap, .int .i64 (J1 : Int)])
    go_upto_region 14 with fail
    have XW := hid ((z1.trans (xw1.trans (xw2.trans (xq3.trans (z5.trans (xq4.trans (z7.trans (xq5.trans (z9.trans (xw6.trans (xw7.trans (xw8.trans (xw9.trans (xwa.trans z15)))))))))))))))
    obtain ⟨W, eW⟩ : ∃ W, (wa.alloc (.cells #[.slice a xs.length cap, .int .i64 (J1 : Int)] 25)) = W := ⟨_, rfl⟩
    have HTW := hid (HT.out.ext (xw1.trans (xw2.trans (xq3.trans (z5.trans (xq4.trans (z7.trans (xq5.trans (z9.trans (xw6.trans (xw7.trans (xw8.trans (xw9.trans (xwa.trans z15))))))))))))))
    have H3W := hid (H3.out.ext (xq4.trans (z7.trans (xq5.trans (z9.trans (xw6.trans (xw7.trans (xw8.trans (xw9.trans (xwa.trans z15))))))))))
    have H4W := hid (H4.out.ext (xq5.trans (z9.trans (xw6.trans (xw7.trans (xw8.trans (xw9.trans (xwa.trans z15))))))))
    have H5W := hid (H5.out.ext (xw6.trans (xw7.trans (xw8.trans (xw9.trans (xwa.trans z15))))))
    have H6W := hid H6.out
    have J4W := hid (J4.out.ext (z7.trans (xq5.trans (z9.trans (xw6.trans (xw7.trans (xw8.trans (xw9.trans (xwa.trans z15)))))))))
    have J5W := hid (J5.out.ext (z9.trans (xw6.trans (xw7.trans (xw8.trans (xw9.trans (xwa.trans z15)))))))
    have HVW := hid (HV.out.ext (z1.trans (xw1.trans (xw2.trans (xq3.trans (z5.trans (xq4.trans (z7.trans (xq5.trans (z9.trans (xw6.trans (xw7.trans (xw8.trans (xw9.trans (xwa.trans z15)))))))))))))))
    rw [eW] at XW HTW H3W H4W H5W H6W J4W J5W HVW
    rw [eW]
    clear eW
    have hq := hid fun (w' : World) (h : Ext W w') => (HTW.out.ext h).at2
    have h3q := hid fun (w' : World) (h : Ext W w') => (H3W.out.ext h).at2
    have h6q := hid fun (w' : World) (h : Ext W w') => (H6W.out.ext h).at2
    go_cut [190] from 167 to 189 (fun c w' => c = .bool false ∧ Ext W w')
    case first =>
      refine region_ext W (by kernel_rfl) (by kernel_rfl) (Ext.refl _) ?_
      iterate 5
        refine wpQuiet_step (fun K hK => ?_)
        go_simp
        refine ⟨_, fun _ _ => rfl, hK _ ?_⟩
        clear hK K
      refine wpQuiet_step (fun K hK => ?_)
      go_simp
      refine ⟨.int .i64 (J1 : Int), fun w' h => ?_, hK _ ?_⟩
      · obtain ⟨-, t1⟩ := h3q.out w' h
        simp [t1, Result.andThen]
      clear hK K
      iterate 1
        refine wpQuiet_step (fun K hK => ?_)
        go_simp
        refine ⟨_, fun _ _ => rfl, hK _ ?_⟩
        clear hK K
      refine wpQuiet_step (fun K hK => ?_)
      go_simp
      refine ⟨.int .i64 (J1 : Int), fun w' h => ?_, hK _ ?_⟩
      · obtain ⟨-, t1⟩ := h6q.out w' h
        simp [t1, Result.andThen]
      clear hK K
      iterate 9
        refine wpQuiet_step (fun K hK => ?_)
        go_simp
        refine ⟨_, fun _ _ => rfl, hK _ ?_⟩
        clear hK K
      refine wpQuiet_step (fun K hK => ?_)
      go_simp
      refine ⟨.agg #[.slice a xs.length cap, .int .i64 k], fun w' h => ?_, hK _ ?_⟩
      · obtain ⟨t0, t1⟩ := hq.out w' h
        simp [t0, t1, Result.andThen]
      clear hK K
      refine wpQuiet_step (fun K hK => ?_)
      go_simp
      refine ⟨.int .i64 (NL : Int), fun w' h => ?_, hK _ ?_⟩
      · exact quiet_e h (DL.out _ (XW.out.trans h))
      clear hK K
      iterate 1
        refine wpQuiet_step (fun K hK => ?_)
        go_simp
        refine ⟨_, fun _ _ => rfl, hK _ ?_⟩
        clear hK K
      refine wpQuiet_step (fun K hK => ?_)
      go_simp
      refine ⟨.agg #[.slice a xs.length cap, .int .i64 k], fun w' h => ?_, hK _ ?_⟩
      · obtain ⟨t0, t1⟩ := hq.out w' h
        simp [t0, t1, Result.andThen]
      clear hK K
      refine wpQuiet_step (fun K hK => ?_)
      go_simp
      refine ⟨.int .i64 (NL : Int), fun w' h => ?_, hK _ ?_⟩
      · exact quiet_e h (RLH.out _ (XW.out.trans h))
      clear hK K
      iterate 2
        refine wpQuiet_step (fun K hK => ?_)
        go_simp
        refine ⟨_, fun _ _ => rfl, hK _ ?_⟩
        clear hK K
      refine wpQuiet_nil ?_
      intro w2 hw2
      go_wp2_with fail
      go_meet
      exact ⟨by simp, hw2⟩
    case rest =>
      rename World => W2
      obtain ⟨rfl, hx2⟩ := hcut
      clear hq h3q h6q
      have HT2 := hid (HTW.out.ext hx2)
      have H42 := hid (H4W.out.ext hx2)
      have H52 := hid (H5W.out.ext hx2)
      have J42 := hid (J4W.out.ext hx2)
      have J52 := hid (J5W.out.ext hx2)
      have X2 := hid (XW.out.trans hx2)
      obtain ⟨ht2_0, ht2_1⟩ := HT2.out.at2
      obtain ⟨h42_0, h42_1⟩ := H42.out.at2
      obtain ⟨h52_0, h52_1⟩ := H52.out.at2
      go_wp2_with fail
      go_ret
      exact ⟨ret_bool (by simp), X2.out⟩
  · have z1 := (Ext.refl w).alloc (.cells #[.slice a xs.length cap, .int .i64 k] 25)
    go_wp2_with fail
    refine (awake10 _).mono ?_
    rintro _ w1 ⟨rfl, xw1⟩
    obtain ⟨ht_0, ht_1⟩ := (HT.out.ext xw1).at2
    go_wp2_with fail
    refine (C10.out _ (z1.trans xw1)).mono ?_
    rintro _ w2 ⟨rfl, xw2⟩
    clear ht_0 ht_1
    obtain ⟨ht_0, ht_1⟩ := (HT.out.ext (xw1.trans xw2)).at2
    go_wp2_with fail
    refine (D1.out _ _ (HV.out.ext (z1.trans (xw1.trans xw2)))).mono ?_
    rintro _ q3 ⟨v3, rfl, i3, xq3⟩
    clear ht_0 ht_1
    have I3 := hid i3
    obtain ⟨a3, c3, rfl, -, -, -⟩ := i3
    have z5 := (Ext.refl q3).alloc (.cells #[.slice a3 xs.length c3, .int .i64 (J1 : Int)] 25)
    have H3 := hid (Blk.new q3 25 #[.slice a3 xs.length c3, .int .i64 (J1 : Int)])
    obtain ⟨ht_0, ht_1⟩ := (HT.out.ext (xw1.trans (xw2.trans (xq3.trans z5)))).at2
    go_wp2_with fail
    refine (D2.out _ _ (HV.out.ext (z1.trans (xw1.trans (xw2.trans (xq3.trans z5)))))).mono ?_
    rintro _ q4 ⟨v4, u4, rfl, j4, i4, xq4⟩
    clear ht_0 ht_1
    have J4 := hid j4
    have I4 := hid i4
    obtain ⟨b4, d4, rfl, -, -, -⟩ := j4
    obtain ⟨a4, c4, rfl, -, -, -⟩ := i4
    have z7 := (Ext.refl q4).alloc (.cells #[.slice a4 xs.length c4, .int .i64 k] 25)
    have H4 := hid (Blk.new q4 25 #[.slice a4 xs.length c4, .int .i64 k])
    obtain ⟨ht_0, ht_1⟩ := (HT.out.ext (xw1.trans (xw2.trans (xq3.trans (z5.trans (xq4.trans z7)))))).at2
    go_wp2_with fail
    refine (D3.out _ _ (HV.out.ext (z1.trans (xw1.trans (xw2.trans (xq3.trans (z5.trans (xq4.trans z7)))))))).mono ?_
    rintro _ q5 ⟨v5, u5, rfl, j5, i5, xq5⟩
    clear ht_0 ht_1
    have J5 := hid j5
    have I5 := hid i5
    obtain ⟨b5, d5, rfl, -, -, -⟩ := j5
    obtain ⟨a5, c5, rfl, -, -, -⟩ := i5
    have z9 := (Ext.refl q5).alloc (.cells #[.slice a5 xs.length c5, .int .i64 k] 25)
    have H5 := hid (Blk.new q5 25 #[.slice a5 xs.length c5, .int .i64 k])
    obtain ⟨ht_0, ht_1⟩ := (HT.out.ext (xw1.trans (xw2.trans (xq3.trans (z5.trans (xq4.trans (z7.trans (xq5.trans z9)))))))).at2
    go_wp2_with fail
    refine (CT.out _ (z1.trans (xw1.trans (xw2.trans (xq3.trans (z5.trans (xq4.trans (z7.trans (xq5.trans z9))))))))).mono ?_
    rintro _ w6 ⟨rfl, xw6⟩
    clear ht_0 ht_1
    go_wp2_with fail
    refine (CC1.out _).mono ?_
    rintro _ _ ⟨rfl, rfl⟩
    go_wp2_with fail
    refine (CC2.out _).mono ?_
    rintro _ _ ⟨rfl, rfl⟩
    obtain ⟨ht_0, ht_1⟩ := (HT.out.ext (xw1.trans (xw2.trans (xq3.trans (z5.trans (xq4.trans (z7.trans (xq5.trans (z9.trans xw6))))))))).at2
    obtain ⟨h3_0, h3_1⟩ := (H3.out.ext (xq4.trans (z7.trans (xq5.trans (z9.trans xw6))))).at2
    go_wp2_with fail
    refine (CS.out _ _ _ (I3.out.ext (z5.trans (xq4.trans (z7.trans (xq5.trans (z9.trans xw6)))))) (HV.out.ext (z1.trans (xw1.trans (xw2.trans (xq3.trans (z5.trans (xq4.trans (z7.trans (xq5.trans (z9.trans xw6))))))))))).mono ?_
    rintro _ w7 ⟨rfl, xw7⟩
    clear ht_0 ht_1 h3_0 h3_1
    obtain ⟨ht_0, ht_1⟩ := (HT.out.ext (xw1.trans (xw2.trans (xq3.trans (z5.trans (xq4.trans (z7.trans (xq5.trans (z9.trans (xw6.trans xw7)))))))))).at2
    obtain ⟨h4_0, h4_1⟩ := (H4.out.ext (xq5.trans (z9.trans (xw6.trans xw7)))).at2
    go_wp2_with fail
    refine (CS.out _ _ _ (I4.out.ext (z7.trans (xq5.trans (z9.trans (xw6.trans xw7))))) (HV.out.ext (z1.trans (xw1.trans (xw2.trans (xq3.trans (z5.trans (xq4.trans (z7.trans (xq5.trans (z9.trans (xw6.trans xw7)))))))))))).mono ?_
    rintro _ w8 ⟨rfl, xw8⟩
    clear ht_0 ht_1 h4_0 h4_1
    obtain ⟨ht_0, ht_1⟩ := (HT.out.ext (xw1.trans (xw2.trans (xq3.trans (z5.trans (xq4.trans (z7.trans (xq5.trans (z9.trans (xw6.trans (xw7.trans xw8))))))))))).at2
    obtain ⟨h5_0, h5_1⟩ := (H5.out.ext (xw6.trans (xw7.trans xw8))).at2
    go_wp2_with fail
    refine (CS.out _ _ _ (I5.out.ext (z9.trans (xw6.trans (xw7.trans xw8)))) (HV.out.ext (z1.trans (xw1.trans (xw2.trans (xq3.trans (z5.trans (xq4.trans (z7.trans (xq5.trans (z9.trans (xw6.trans (xw7.trans xw8))))))))))))).mono ?_
    rintro _ w9 ⟨rfl, xw9⟩
    clear ht_0 ht_1 h5_0 h5_1
    go_wp2_with fail
    refine (CR.out _).mono ?_
    rintro _ _ ⟨rfl, rfl⟩
    obtain ⟨ht_0, ht_1⟩ := (HT.out.ext (xw1.trans (xw2.trans (xq3.trans (z5.trans (xq4.trans (z7.trans (xq5.trans (z9.trans (xw6.trans (xw7.trans (xw8.trans xw9)))))))))))).at2
    obtain ⟨h3_0, h3_1⟩ := (H3.out.ext (xq4.trans (z7.trans (xq5.trans (z9.trans (xw6.trans (xw7.trans (xw8.trans xw9)))))))).at2
    obtain ⟨h4_0, h4_1⟩ := (H4.out.ext (xq5.trans (z9.trans (xw6.trans (xw7.trans (xw8.trans xw9)))))).at2
    obtain ⟨h5_0, h5_1⟩ := (H5.out.ext (xw6.trans (xw7.trans (xw8.trans xw9)))).at2
    go_wp2_with fail
    refine (RDH.out _ (z1.trans (xw1.trans (xw2.trans (xq3.trans (z5.trans (xq4.trans (z7.trans (xq5.trans (z9.trans (xw6.trans (xw7.trans (xw8.trans xw9))))))))))))).mono ?_
    rintro _ wa ⟨rfl, xwa⟩
    clear ht_0 ht_1 h3_0 h3_1 h4_0 h4_1 h5_0 h5_1
    have z15 := (Ext.refl wa).alloc (.cells #[.slice a xs.length cap, .int .i64 (J1 : Int)] 25)
    have H6 := hid (Blk.new wa 25 #[.slice a xs.length cap, .int .i64 (J1 : Int)])
    go_upto_region 14 with fail
    have XW := hid ((z1.trans (xw1.trans (xw2.trans (xq3.trans (z5.trans (xq4.trans (z7.trans (xq5.trans (z9.trans (xw6.trans (xw7.trans (xw8.trans (xw9.trans (xwa.trans z15)))))))))))))))
    obtain ⟨W, eW⟩ : ∃ W, (wa.alloc (.cells #[.slice a xs.length cap, .int .i64 (J1 : Int)] 25)) = W := ⟨_, rfl⟩
    have HTW := hid (HT.out.ext (xw1.trans (xw2.trans (xq3.trans (z5.trans (xq4.trans (z7.trans (xq5.trans (z9.trans (xw6.trans (xw7.trans (xw8.trans (xw9.trans (xwa.trans z15))))))))))))))
    have H3W := hid (H3.out.ext (xq4.trans (z7.trans (xq5.trans (z9.trans (xw6.trans (xw7.trans (xw8.trans (xw9.trans (xwa.trans z15))))))))))
    have H4W := hid (H4.out.ext (xq5.trans (z9.trans (xw6.trans (xw7.trans (xw8.trans (xw9.trans (xwa.trans z15))))))))
    have H5W := hid (H5.out.ext (xw6.trans (xw7.trans (xw8.trans (xw9.trans (xwa.trans z15))))))
    have H6W := hid H6.out
    have J4W := hid (J4.out.ext (z7.trans (xq5.trans (z9.trans (xw6.trans (xw7.trans (xw8.trans (xw9.trans (xwa.trans z15)))))))))
    have J5W := hid (J5.out.ext (z9.trans (xw6.trans (xw7.trans (xw8.trans (xw9.trans (xwa.trans z15)))))))
    have HVW := hid (HV.out.ext (z1.trans (xw1.trans (xw2.trans (xq3.trans (z5.trans (xq4.trans (z7.trans (xq5.trans (z9.trans (xw6.trans (xw7.trans (xw8.trans (xw9.trans (xwa.trans z15)))))))))))))))
    rw [eW] at XW HTW H3W H4W H5W H6W J4W J5W HVW
    rw [eW]
    clear eW
    have hq := hid fun (w' : World) (h : Ext W w') => (HTW.out.ext h).at2
    have h3q := hid fun (w' : World) (h : Ext W w') => (H3W.out.ext h).at2
    have h6q := hid fun (w' : World) (h : Ext W w') => (H6W.out.ext h).at2
    go_cut [190] from 167 to 189 (fun c w' => c = .bool false ∧ Ext W w')
    case first =>
      refine region_ext W (by kernel_rfl) (by kernel_rfl) (Ext.refl _) ?_
      iterate 5
        refine wpQuiet_step (fun K hK => ?_)
        go_simp
        refine ⟨_, fun _ _ => rfl, hK _ ?_⟩
        clear hK K
      refine wpQuiet_step (fun K hK => ?_)
      go_simp
      refine ⟨.int .i64 (J1 : Int), fun w' h => ?_, hK _ ?_⟩
      · obtain ⟨-, t1⟩ := h3q.out w' h
        simp [t1, Result.andThen]
      clear hK K
      iterate 1
        refine wpQuiet_step (fun K hK => ?_)
        go_simp
        refine ⟨_, fun _ _ => rfl, hK _ ?_⟩
        clear hK K
      refine wpQuiet_step (fun K hK => ?_)
      go_simp
      refine ⟨.int .i64 (J1 : Int), fun w' h => ?_, hK _ ?_⟩
      · obtain ⟨-, t1⟩ := h6q.out w' h
        simp [t1, Result.andThen]
      clear hK K
      iterate 9
        refine wpQuiet_step (fun K hK => ?_)
        go_simp
        refine ⟨_, fun _ _ => rfl, hK _ ?_⟩
        clear hK K
      refine wpQuiet_step (fun K hK => ?_)
      go_simp
      refine ⟨.agg #[.slice a xs.length cap, .int .i64 k], fun w' h => ?_, hK _ ?_⟩
      · obtain ⟨t0, t1⟩ := hq.out w' h
        simp [t0, t1, Result.andThen]
      clear hK K
      refine wpQuiet_step (fun K hK => ?_)
      go_simp
      refine ⟨.int .i64 (NL : Int), fun w' h => ?_, hK _ ?_⟩
      · exact quiet_e h (DL.out _ (XW.out.trans h))
      clear hK K
      iterate 1
        refine wpQuiet_step (fun K hK => ?_)
        go_simp
        refine ⟨_, fun _ _ => rfl, hK _ ?_⟩
        clear hK K
      refine wpQuiet_step (fun K hK => ?_)
      go_simp
      refine ⟨.agg #[.slice a xs.length cap, .int .i64 k], fun w' h => ?_, hK _ ?_⟩
      · obtain ⟨t0, t1⟩ := hq.out w' h
        simp [t0, t1, Result.andThen]
      clear hK K
      refine wpQuiet_step (fun K hK => ?_)
      go_simp
      refine ⟨.int .i64 (NL : Int), fun w' h => ?_, hK _ ?_⟩
      · exact quiet_e h (RLH.out _ (XW.out.trans h))
      clear hK K
      iterate 2
        refine wpQuiet_step (fun K hK => ?_)
        go_simp
        refine ⟨_, fun _ _ => rfl, hK _ ?_⟩
        clear hK K
      refine wpQuiet_nil ?_
      intro w2 hw2
      go_wp2_with fail
      go_meet
      exact ⟨by simp, hw2⟩
    case rest =>
      rename World => W2
      obtain ⟨rfl, hx2⟩ := hcut
      clear hq h3q h6q
      have HT2 := hid (HTW.out.ext hx2)
      have H42 := hid (H4W.out.ext hx2)
      have H52 := hid (H5W.out.ext hx2)
      have J42 := hid (J4W.out.ext hx2)
      have J52 := hid (J5W.out.ext hx2)
      have X2 := hid (XW.out.trans hx2)
      obtain ⟨ht2_0, ht2_1⟩ := HT2.out.at2
      obtain ⟨h42_0, h42_1⟩ := H42.out.at2
      obtain ⟨h52_0, h52_1⟩ := H52.out.at2
      go_wp2_with fail
      go_ret
      exact ⟨ret_bool (by simp), X2.out⟩
end Go.Proofs.Ytcganfmlfoebpaa.tapeRight
