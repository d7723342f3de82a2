/- TapeRight: whatever the modulus, the tape, the number and the word, the law answers true, and nothing that was there has turned. No condition. -/
import Derived.Test.YtcganfmlfoebpaaTpR
import Derived.Test.YtcganfmlfoebpaaAwake10
namespace Go.Proofs.Ytcganfmlfoebpaa.tapeRight
open Go.ChangeShapes Go.WideShapes Go.ChangeAt Go.RowKit Go.Maps

set_option maxRecDepth 100000 in
set_option maxHeartbeats 2000000 in
theorem walk_skip (p k : Int) (v : Value) (xs : List Int) (n x : Int) (w : World) (wp : (Lit.int .u64 p).wf = true) (wk : (Lit.int .i64 k).wf = true) (hv : Ints .u64 w v xs) (hx : ∀ x ∈ xs, (Lit.int .u64 x).wf = true) (wn : (Lit.int .i64 n).wf = true) (wx : (Lit.int .u64 x).wf = true) (h : 60 < xs.length ∨ 40 < n ∧ n ≤ 8192) :
    Calls Try.prog 3 #[.int .u64 p, .agg #[v, .int .i64 k], .int .i64 n, .int .u64 x] w (Ret (.bool true) w) := by
  have hp := u64_wf wp
  have hkw := i64_wf wk
  have hnw := i64_wf wn
  have hxw := u64_wf wx
  have hX : U64s xs := fun x h => u64_wf (hx x h)
  clear wp wk wn wx hx
  clear hX
  obtain ⟨a, cap, rfl, -, -, -⟩ := hv
  have HT := hid (Blk.new w 25 #[.slice a xs.length cap, .int .i64 k])
  by_cases g1 : 60 < xs.length
  · clear h
    go_enter Try.func3, Try.ntmps3
    go_wp2_with fail
    refine (awake10 _).mono ?_
    rintro _ w1 ⟨rfl, x1⟩
    obtain ⟨b0, b1⟩ := (HT.out.ext x1).at2
    go_wp2_with fail
    go_ret
    exact ⟨rfl, Ext.trans (by repeat (first | exact Ext.refl _ | assumption | refine Ext.drew ?_ | refine Ext.drewN ?_ _ | refine Ext.alloc ?_ _ | refine Ext.trans ?_ (by assumption))) x1⟩
  · have g2 : 40 < n := by omega
    have g3 : n ≤ 8192 := by omega
    clear h
    go_enter Try.func3, Try.ntmps3
    go_wp2_with fail
    refine (awake10 _).mono ?_
    rintro _ w1 ⟨rfl, x1⟩
    obtain ⟨b0, b1⟩ := (HT.out.ext x1).at2
    go_wp2_with fail
    go_ret
    exact ⟨rfl, Ext.trans (by repeat (first | exact Ext.refl _ | assumption | refine Ext.drew ?_ | refine Ext.drewN ?_ _ | refine Ext.alloc ?_ _ | refine Ext.trans ?_ (by assumption))) x1⟩

set_option maxRecDepth 100000 in
set_option maxHeartbeats 4000000 in
theorem walk_off (p k : Int) (v : Value) (xs : List Int) (n x : Int) (w : World) (wp : (Lit.int .u64 p).wf = true) (wk : (Lit.int .i64 k).wf = true) (hv : Ints .u64 w v xs) (hx : ∀ x ∈ xs, (Lit.int .u64 x).wf = true) (wn : (Lit.int .i64 n).wf = true) (wx : (Lit.int .u64 x).wf = true) (hl : xs.length ≤ 60) (hn : ¬ (40 < n ∧ n ≤ 8192)) (h : tapeB k xs = false ∨ rightB p = false) :
    Calls Try.prog 3 #[.int .u64 p, .agg #[v, .int .i64 k], .int .i64 n, .int .u64 x] w (Ret (.bool true) w) := by
  have hp := u64_wf wp
  have hkw := i64_wf wk
  have hnw := i64_wf wn
  have hxw := u64_wf wx
  have hX : U64s xs := fun x h => u64_wf (hx x h)
  clear wp wk wn wx hx
  obtain ⟨TB, eTB⟩ : ∃ B, tapeB k xs = B := ⟨_, rfl⟩
  obtain ⟨RB, eRB⟩ : ∃ B, rightB p = B := ⟨_, rfl⟩
  have C10 := hid fun (W : World) (hW : Ext w W) => (show Calls Try.prog 8 #[.agg #[v, .int .i64 k]] W (Ret (.bool TB) W) from eTB ▸ r10Right v k xs W (hv.ext hW))
  have CT := hid fun (W : World) (hW : Ext w W) => tpRightE (B := TB) eTB (hv.ext hW)
  obtain ⟨CW, eCW⟩ : ∃ B, cntB p x = B := ⟨_, rfl⟩
  have CC1 := hid fun (W : World) => tpCounts p x W hp.1 hp.2
  have CC2 := hid fun (W : World) => r10Counts p x W hp.1 hp.2 hxw.1 hxw.2
  rw [eCW] at CC1 CC2
  have CS := hid fun (W : World) (u u' : Value) (hu : Ints .u64 W u xs) (hu' : Ints .u64 W u' xs) => same_any u u' xs xs W hu hu'
  rw [decide_eq_true rfl] at CS
  have HV := hid hv
  have m1 := may_off (n := 1) h
  have m2 := may_off (n := n) h
  have FX := drX_off m1
  have F1 := told_off (m := 0) m1
  have F2 := told_off (m := 0) m2
  have F3 := told_off (m := 1) m2
  have FL : leftN p k xs = 0 := by
    rcases h with h | h
    · unfold leftN; rw [h]; rfl
    · exact left_off h
  have D1 := hid fun (W : World) (u : Value) (hu : Ints .u64 W u xs) => tpDrawE hp.1 hp.2 hkw hX (by omega) FX F1.2.1 F1.2.2 hu
  have D2 := hid fun (W : World) (u : Value) (hu : Ints .u64 W u xs) => tpManyE hp.1 hp.2 hnw hkw hX (by omega) F2.1 F2.2.1 F2.2.2 hu
  have D3 := hid fun (W : World) (u : Value) (hu : Ints .u64 W u xs) => tpOtherE hp.1 hp.2 hnw hkw hX (by omega) F3.1 F3.2.1 F3.2.2 hu
  have DL := hid fun (W : World) (u : Value) (hu : Ints .u64 W u xs) => tpLeftE hp.1 hp.2 hX FL hu
  have CR := hid fun (W : World) => rRight p W hp.1 hp.2
  rw [eRB] at CR
  rw [eTB, eRB] at h
  unfold RetTd at D1
  unfold RetTp at D2 D3
  obtain ⟨a, cap, rfl, -, -, -⟩ := hv
  have HT := hid (Blk.new w 25 #[.slice a xs.length cap, .int .i64 k])
  have hbC : (CW != CW) = false := by simp
  have hg : n ≤ 40 ∨ 8192 < n := by omega
  clear m1 m2 FX F1 F2 F3 FL eTB eRB eCW hX hn
  cases TB with
  | false =>
    clear h
    rcases hg with g | g
    · go_enter Try.func3, Try.ntmps3
      have z1 := (Ext.refl w).alloc (.cells #[.slice a xs.length cap, .int .i64 k] 25)
      go_wp2_with fail
      refine (awake10 _).mono ?_
      rintro _ w1 ⟨rfl, xw1⟩
      obtain ⟨ht_0, ht_1⟩ := (HT.out.ext xw1).at2
      go_wp2_with fail
      refine (C10.out _ (z1.trans xw1)).mono ?_
      rintro _ w2 ⟨rfl, xw2⟩
      clear ht_0 ht_1
      obtain ⟨ht_0, ht_1⟩ := (HT.out.ext (xw1.trans xw2)).at2
      go_wp2_with fail
      refine (D1.out _ _ (HV.out.ext (z1.trans (xw1.trans xw2)))).mono ?_
      rintro _ q3 ⟨v3, rfl, i3, xq3⟩
      clear ht_0 ht_1
      have I3 := hid i3
      obtain ⟨a3, c3, rfl, -, -, -⟩ := i3
      have z5 := (Ext.refl q3).alloc (.cells #[.slice a3 xs.length c3, .int .i64 k] 25)
      have H3 := hid (Blk.new q3 25 #[.slice a3 xs.length c3, .int .i64 k])
      obtain ⟨ht_0, ht_1⟩ := (HT.out.ext (xw1.trans (xw2.trans (xq3.trans z5)))).at2
      go_wp2_with fail
      refine (D2.out _ _ (HV.out.ext (z1.trans (xw1.trans (xw2.trans (xq3.trans z5)))))).mono ?_
      rintro _ q4 ⟨v4, u4, rfl, j4, i4, xq4⟩
      clear ht_0 ht_1
      have J4 := hid j4
      have I4 := hid i4
      obtain ⟨b4, d4, rfl, -, -, -⟩ := j4
      obtain ⟨a4, c4, rfl, -, -, -⟩ := i4
      have z7 := (Ext.refl q4).alloc (.cells #[.slice a4 xs.length c4, .int .i64 k] 25)
      have H4 := hid (Blk.new q4 25 #[.slice a4 xs.length c4, .int .i64 k])
      obtain ⟨ht_0, ht_1⟩ := (HT.out.ext (xw1.trans (xw2.trans (xq3.trans (z5.trans (xq4.trans z7)))))).at2
      go_wp2_with fail
      refine (D3.out _ _ (HV.out.ext (z1.trans (xw1.trans (xw2.trans (xq3.trans (z5.trans (xq4.trans z7)))))))).mono ?_
      rintro _ q5 ⟨v5, u5, rfl, j5, i5, xq5⟩
      clear ht_0 ht_1
      have J5 := hid j5
      have I5 := hid i5
      obtain ⟨b5, d5, rfl, -, -, -⟩ := j5
      obtain ⟨a5, c5, rfl, -, -, -⟩ := i5
      have z9 := (Ext.refl q5).alloc (.cells #[.slice a5 xs.length c5, .int .i64 k] 25)
      have H5 := hid (Blk.new q5 25 #[.slice a5 xs.length c5, .int .i64 k])
      obtain ⟨ht_0, ht_1⟩ := (HT.out.ext (xw1.trans (xw2.trans (xq3.trans (z5.trans (xq4.trans (z7.trans (xq5.trans z9)))))))).at2
      go_wp2_with fail
      refine (CT.out _ (z1.trans (xw1.trans (xw2.trans (xq3.trans (z5.trans (xq4.trans (z7.trans (xq5.trans z9))))))))).mono ?_
      rintro _ w6 ⟨rfl, xw6⟩
      clear ht_0 ht_1
      go_wp2_with fail
      refine (CC1.out _).mono ?_
      rintro _ _ ⟨rfl, rfl⟩
      go_wp2_with fail
      refine (CC2.out _).mono ?_
      rintro _ _ ⟨rfl, rfl⟩
      obtain ⟨ht_0, ht_1⟩ := (HT.out.ext (xw1.trans (xw2.trans (xq3.trans (z5.trans (xq4.trans (z7.trans (xq5.trans (z9.trans xw6))))))))).at2
      obtain ⟨h3_0, h3_1⟩ := (H3.out.ext (xq4.trans (z7.trans (xq5.trans (z9.trans xw6))))).at2
      go_wp2_with fail
      refine (CS.out _ _ _ (I3.out.ext (z5.trans (xq4.trans (z7.trans (xq5.trans (z9.trans xw6)))))) (HV.out.ext (z1.trans (xw1.trans (xw2.trans (xq3.trans (z5.trans (xq4.trans (z7.trans (xq5.trans (z9.trans xw6))))))))))).mono ?_
      rintro _ w7 ⟨rfl, xw7⟩
      clear ht_0 ht_1 h3_0 h3_1
      obtain ⟨ht_0, ht_1⟩ := (HT.out.ext (xw1.trans (xw2.trans (xq3.trans (z5.trans (xq4.trans (z7.trans (xq5.trans (z9.trans (xw6.trans xw7)))))))))).at2
      obtain ⟨h4_0, h4_1⟩ := (H4.out.ext (xq5.trans (z9.trans (xw6.trans xw7)))).at2
      go_wp2_with fail
      refine (CS.out _ _ _ (I4.out.ext (z7.trans (xq5.trans (z9.trans (xw6.trans xw7))))) (HV.out.ext (z1.trans (xw1.trans (xw2.trans (xq3.trans (z5.trans (xq4.trans (z7.trans (xq5.trans (z9.trans (xw6.trans xw7)))))))))))).mono ?_
      rintro _ w8 ⟨rfl, xw8⟩
      clear ht_0 ht_1 h4_0 h4_1
      obtain ⟨ht_0, ht_1⟩ := (HT.out.ext (xw1.trans (xw2.trans (xq3.trans (z5.trans (xq4.trans (z7.trans (xq5.trans (z9.trans (xw6.trans (xw7.trans xw8))))))))))).at2
      obtain ⟨h5_0, h5_1⟩ := (H5.out.ext (xw6.trans (xw7.trans xw8))).at2
      go_wp2_with fail
      refine (CS.out _ _ _ (I5.out.ext (z9.trans (xw6.trans (xw7.trans xw8)))) (HV.out.ext (z1.trans (xw1.trans (xw2.trans (xq3.trans (z5.trans (xq4.trans (z7.trans (xq5.trans (z9.trans (xw6.trans (xw7.trans xw8))))))))))))).mono ?_
      rintro _ w9 ⟨rfl, xw9⟩
      clear ht_0 ht_1 h5_0 h5_1
      obtain ⟨ht_0, ht_1⟩ := (HT.out.ext (xw1.trans (xw2.trans (xq3.trans (z5.trans (xq4.trans (z7.trans (xq5.trans (z9.trans (xw6.trans (xw7.trans (xw8.trans xw9)))))))))))).at2
      obtain ⟨h3_0, h3_1⟩ := (H3.out.ext (xq4.trans (z7.trans (xq5.trans (z9.trans (xw6.trans (xw7.trans (xw8.trans xw9)))))))).at2
      obtain ⟨h4_0, h4_1⟩ := (H4.out.ext (xq5.trans (z9.trans (xw6.trans (xw7.trans (xw8.trans xw9)))))).at2
      obtain ⟨h5_0, h5_1⟩ := (H5.out.ext (xw6.trans (xw7.trans (xw8.trans xw9)))).at2
      go_wp2_with fail
      refine (DL.out _ _ (HV.out.ext (z1.trans (xw1.trans (xw2.trans (xq3.trans (z5.trans (xq4.trans (z7.trans (xq5.trans (z9.trans (xw6.trans (xw7.trans (xw8.trans xw9)))))))))))))).mono ?_
      rintro _ wa ⟨rfl, xwa⟩
      clear ht_0 ht_1 h3_0 h3_1 h4_0 h4_1 h5_0 h5_1
      go_wp2_with fail
      go_ret
      exact ⟨ret_bool (by simp), (z1.trans (xw1.trans (xw2.trans (xq3.trans (z5.trans (xq4.trans (z7.trans (xq5.trans (z9.trans (xw6.trans (xw7.trans (xw8.trans (xw9.trans xwa)))))))))))))⟩
    · go_enter Try.func3, Try.ntmps3
      have z1 := (Ext.refl w).alloc (.cells #[.slice a xs.length cap, .int .i64 k] 25)
      go_wp2_with fail
      refine (awake10 _).mono ?_
      rintro _ w1 ⟨rfl, xw1⟩
      obtain ⟨ht_0, ht_1⟩ := (HT.out.ext xw1).at2
      go_wp2_with fail
      refine (C10.out _ (z1.trans xw1)).mono ?_
      rintro _ w2 ⟨rfl, xw2⟩
      clear ht_0 ht_1
      obtain ⟨ht_0, ht_1⟩ := (HT.out.ext (xw1.trans xw2)).at2
      go_wp2_with fail
      refine (D1.out _ _ (HV.out.ext (z1.trans (xw1.trans xw2)))).mono ?_
      rintro _ q3 ⟨v3, rfl, i3, xq3⟩
      clear ht_0 ht_1
      have I3 := hid i3
      obtain ⟨a3, c3, rfl, -, -, -⟩ := i3
      have z5 := (Ext.refl q3).alloc (.cells #[.slice a3 xs.length c3, .int .i64 k] 25)
      have H3 := hid (Blk.new q3 25 #[.slice a3 xs.length c3, .int .i64 k])
      obtain ⟨ht_0, ht_1⟩ := (HT.out.ext (xw1.trans (xw2.trans (xq3.trans z5)))).at2
      go_wp2_with fail
      refine (D2.out _ _ (HV.out.ext (z1.trans (xw1.trans (xw2.trans (xq3.trans z5)))))).mono ?_
      rintro _ q4 ⟨v4, u4, rfl, j4, i4, xq4⟩
      clear ht_0 ht_1
      have J4 := hid j4
      have I4 := hid i4
      obtain ⟨b4, d4, rfl, -, -, -⟩ := j4
      obtain ⟨a4, c4, rfl, -, -, -⟩ := i4
      have z7 := (Ext.refl q4).alloc (.cells #[.slice a4 xs.length c4, .int .i64 k] 25)
      have H4 := hid (Blk.new q4 25 #[.slice a4 xs.length c4, .int .i64 k])
      obtain ⟨ht_0, ht_1⟩ := (HT.out.ext (xw1.trans (xw2.trans (xq3.trans (z5.trans (xq4.trans z7)))))).at2
      go_wp2_with fail
      refine (D3.out _ _ (HV.out.ext (z1.trans (xw1.trans (xw2.trans (xq3.trans (z5.trans (xq4.trans z7)))))))).mono ?_
      rintro _ q5 ⟨v5, u5, rfl, j5, i5, xq5⟩
      clear ht_0 ht_1
      have J5 := hid j5
      have I5 := hid i5
      obtain ⟨b5, d5, rfl, -, -, -⟩ := j5
      obtain ⟨a5, c5, rfl, -, -, -⟩ := i5
      have z9 := (Ext.refl q5).alloc (.cells #[.slice a5 xs.length c5, .int .i64 k] 25)
      have H5 := hid (Blk.new q5 25 #[.slice a5 xs.length c5, .int .i64 k])
      obtain ⟨ht_0, ht_1⟩ := (HT.out.ext (xw1.trans (xw2.trans (xq3.trans (z5.trans (xq4.trans (z7.trans (xq5.trans z9)))))))).at2
      go_wp2_with fail
      refine (CT.out _ (z1.trans (xw1.trans (xw2.trans (xq3.trans (z5.trans (xq4.trans (z7.trans (xq5.trans z9))))))))).mono ?_
      rintro _ w6 ⟨rfl, xw6⟩
      clear ht_0 ht_1
      go_wp2_with fail
      refine (CC1.out _).mono ?_
      rintro _ _ ⟨rfl, rfl⟩
      go_wp2_with fail
      refine (CC2.out _).mono ?_
      rintro _ _ ⟨rfl, rfl⟩
      obtain ⟨ht_0, ht_1⟩ := (HT.out.ext (xw1.trans (xw2.trans (xq3.trans (z5.trans (xq4.trans (z7.trans (xq5.trans (z9.trans xw6))))))))).at2
      obtain ⟨h3_0, h3_1⟩ := (H3.out.ext (xq4.trans (z7.trans (xq5.trans (z9.trans xw6))))).at2
      go_wp2_with fail
      refine (CS.out _ _ _ (I3.out.ext (z5.trans (xq4.trans (z7.trans (xq5.trans (z9.trans xw6)))))) (HV.out.ext (z1.trans (xw1.trans (xw2.trans (xq3.trans (z5.trans (xq4.trans (z7.trans (xq5.trans (z9.trans xw6))))))))))).mono ?_
      rintro _ w7 ⟨rfl, xw7⟩
      clear ht_0 ht_1 h3_0 h3_1
      obtain ⟨ht_0, ht_1⟩ := (HT.out.ext (xw1.trans (xw2.trans (xq3.trans (z5.trans (xq4.trans (z7.trans (xq5.trans (z9.trans (xw6.trans xw7)))))))))).at2
      obtain ⟨h4_0, h4_1⟩ := (H4.out.ext (xq5.trans (z9.trans (xw6.trans xw7)))).at2
      go_wp2_with fail
      refine (CS.out _ _ _ (I4.out.ext (z7.trans (xq5.trans (z9.trans (xw6.trans xw7))))) (HV.out.ext (z1.trans (xw1.trans (xw2.trans (xq3.trans (z5.trans (xq4.trans (z7.trans (xq5.trans (z9.trans (xw6.trans xw7)))))))))))).mono ?_
      rintro _ w8 ⟨rfl, xw8⟩
      clear ht_0 ht_1 h4_0 h4_1
      obtain ⟨ht_0, ht_1⟩ := (HT.out.ext (xw1.trans (xw2.trans (xq3.trans (z5.trans (xq4.trans (z7.trans (xq5.trans (z9.trans (xw6.trans (xw7.trans xw8))))))))))).at2
      obtain ⟨h5_0, h5_1⟩ := (H5.out.ext (xw6.trans (xw7.trans xw8))).at2
      go_wp2_with fail
      refine (CS.out _ _ _ (I5.out.ext (z9.trans (xw6.trans (xw7.trans xw8)))) (HV.out.ext (z1.trans (xw1.trans (xw2.trans (xq3.trans (z5.trans (xq4.trans (z7.trans (xq5.trans (z9.trans (xw6.trans (xw7.trans xw8))))))))))))).mono ?_
      rintro _ w9 ⟨rfl, xw9⟩
      clear ht_0 ht_1 h5_0 h5_1
      obtain ⟨ht_0, ht_1⟩ := (HT.out.ext (xw1.trans (xw2.trans (xq3.trans (z5.trans (xq4.trans (z7.trans (xq5.trans (z9.trans (xw6.trans (xw7.trans (xw8.trans xw9)))))))))))).at2
      obtain ⟨h3_0, h3_1⟩ := (H3.out.ext (xq4.trans (z7.trans (xq5.trans (z9.trans (xw6.trans (xw7.trans (xw8.trans xw9)))))))).at2
      obtain ⟨h4_0, h4_1⟩ := (H4.out.ext (xq5.trans (z9.trans (xw6.trans (xw7.trans (xw8.trans xw9)))))).at2
      obtain ⟨h5_0, h5_1⟩ := (H5.out.ext (xw6.trans (xw7.trans (xw8.trans xw9)))).at2
      go_wp2_with fail
      refine (DL.out _ _ (HV.out.ext (z1.trans (xw1.trans (xw2.trans (xq3.trans (z5.trans (xq4.trans (z7.trans (xq5.trans (z9.trans (xw6.trans (xw7.trans (xw8.trans xw9)))))))))))))).mono ?_
      rintro _ wa ⟨rfl, xwa⟩
      clear ht_0 ht_1 h3_0 h3_1 h4_0 h4_1 h5_0 h5_1
      go_wp2_with fail
      go_ret
      exact ⟨ret_bool (by simp), (z1.trans (xw1.trans (xw2.trans (xq3.trans (z5.trans (xq4.trans (z7.trans (xq5.trans (z9.trans (xw6.trans (xw7.trans (xw8.trans (xw9.trans xwa)))))))))))))⟩
  | true =>
    obtain rfl : RB = false := by
      rcases h with h | h
      · cases h
      · exact h
    clear h
    rcases hg with g | g
    · go_enter Try.func3, Try.ntmps3
      have z1 := (Ext.refl w).alloc (.cells #[.slice a xs.length cap, .int .i64 k] 25)
      go_wp2_with fail
      refine (awake10 _).mono ?_
      rintro _ w1 ⟨rfl, xw1⟩
      obtain ⟨ht_0, ht_1⟩ := (HT.out.ext xw1).at2
      go_wp2_with fail
      refine (C10.out _ (z1.trans xw1)).mono ?_
      rintro _ w2 ⟨rfl, xw2⟩
      clear ht_0 ht_1
      obtain ⟨ht_0, ht_1⟩ := (HT.out.ext (xw1.trans xw2)).at2
      go_wp2_with fail
      refine (D1.out _ _ (HV.out.ext (z1.trans (xw1.trans xw2)))).mono ?_
      rintro _ q3 ⟨v3, rfl, i3, xq3⟩
      clear ht_0 ht_1
      have I3 := hid i3
      obtain ⟨a3, c3, rfl, -, -, -⟩ := i3
      have z5 := (Ext.refl q3).alloc (.cells #[.slice a3 xs.length c3, .int .i64 k] 25)
      have H3 := hid (Blk.new q3 25 #[.slice a3 xs.length c3, .int .i64 k])
      obtain ⟨ht_0, ht_1⟩ := (HT.out.ext (xw1.trans (xw2.trans (xq3.trans z5)))).at2
      go_wp2_with fail
      refine (D2.out _ _ (HV.out.ext (z1.trans (xw1.trans (xw2.trans (xq3.trans z5)))))).mono ?_
      rintro _ q4 ⟨v4, u4, rfl, j4, i4, xq4⟩
      clear ht_0 ht_1
      have J4 := hid j4
      have I4 := hid i4
      obtain ⟨b4, d4, rfl, -, -, -⟩ := j4
      obtain ⟨a4, c4, rfl, -, -, -⟩ := i4
      have z7 := (Ext.refl q4).alloc (.cells #[.slice a4 xs.length c4, .int .i64 k] 25)
      have H4 := hid (Blk.new q4 25 #[.slice a4 xs.length c4, .int .i64 k])
      obtain ⟨ht_0, ht_1⟩ := (HT.out.ext (xw1.trans (xw2.trans (xq3.trans (z5.trans (xq4.trans z7)))))).at2
      go_wp2_with fail
      refine (D3.out _ _ (HV.out.ext (z1.trans (xw1.trans (xw2.trans (xq3.trans (z5.trans (xq4.trans z7)))))))).mono ?_
      rintro _ q5 ⟨v5, u5, rfl, j5, i5, xq5⟩
      clear ht_0 ht_1
      have J5 := hid j5
      have I5 := hid i5
      obtain ⟨b5, d5, rfl, -, -, -⟩ := j5
      obtain ⟨a5, c5, rfl, -, -, -⟩ := i5
      have z9 := (Ext.refl q5).alloc (.cells #[.slice a5 xs.length c5, .int .i64 k] 25)
      have H5 := hid (Blk.new q5 25 #[.slice a5 xs.length c5, .int .i64 k])
      obtain ⟨ht_0, ht_1⟩ := (HT.out.ext (xw1.trans (xw2.trans (xq3.trans (z5.trans (xq4.trans (z7.trans (xq5.trans z9)))))))).at2
      go_wp2_with fail
      refine (CT.out _ (z1.trans (xw1.trans (xw2.trans (xq3.trans (z5.trans (xq4.trans (z7.trans (xq5.trans z9))))))))).mono ?_
      rintro _ w6 ⟨rfl, xw6⟩
      clear ht_0 ht_1
      go_wp2_with fail
      refine (CC1.out _).mono ?_
      rintro _ _ ⟨rfl, rfl⟩
      go_wp2_with fail
      refine (CC2.out _).mono ?_
      rintro _ _ ⟨rfl, rfl⟩
      obtain ⟨ht_0, ht_1⟩ := (HT.out.ext (xw1.trans (xw2.trans (xq3.trans (z5.trans (xq4.trans (z7.trans (xq5.trans (z9.trans xw6))))))))).at2
      obtain ⟨h3_0, h3_1⟩ := (H3.out.ext (xq4.trans (z7.trans (xq5.trans (z9.trans xw6))))).at2
      go_wp2_with fail
      refine (CS.out _ _ _ (I3.out.ext (z5.trans (xq4.trans (z7.trans (xq5.trans (z9.trans xw6)))))) (HV.out.ext (z1.trans (xw1.trans (xw2.trans (xq3.trans (z5.trans (xq4.trans (z7.trans (xq5.trans (z9.trans xw6))))))))))).mono ?_
      rintro _ w7 ⟨rfl, xw7⟩
      clear ht_0 ht_1 h3_0 h3_1
      obtain ⟨ht_0, ht_1⟩ := (HT.out.ext (xw1.trans (xw2.trans (xq3.trans (z5.trans (xq4.trans (z7.trans (xq5.trans (z9.trans (xw6.trans xw7)))))))))).at2
      obtain ⟨h4_0, h4_1⟩ := (H4.out.ext (xq5.trans (z9.trans (xw6.trans xw7)))).at2
      go_wp2_with fail
      refine (CS.out _ _ _ (I4.out.ext (z7.trans (xq5.trans (z9.trans (xw6.trans xw7))))) (HV.out.ext (z1.trans (xw1.trans (xw2.trans (xq3.trans (z5.trans (xq4.trans (z7.trans (xq5.trans (z9.trans (xw6.trans xw7)))))))))))).mono ?_
      rintro _ w8 ⟨rfl, xw8⟩
      clear ht_0 ht_1 h4_0 h4_1
      obtain ⟨ht_0, ht_1⟩ := (HT.out.ext (xw1.trans (xw2.trans (xq3.trans (z5.trans (xq4.trans (z7.trans (xq5.trans (z9.trans (xw6.trans (xw7.trans xw8))))))))))).at2
      obtain ⟨h5_0, h5_1⟩ := (H5.out.ext (xw6.trans (xw7.trans xw8))).at2
      go_wp2_with fail
      refine (CS.out _ _ _ (I5.out.ext (z9.trans (xw6.trans (xw7.trans xw8)))) (HV.out.ext (z1.trans (xw1.trans (xw2.trans (xq3.trans (z5.trans (xq4.trans (z7.trans (xq5.trans (z9.trans (xw6.trans (xw7.trans xw8))))))))))))).mono ?_
      rintro _ w9 ⟨rfl, xw9⟩
      clear ht_0 ht_1 h5_0 h5_1
      go_wp2_with fail
      refine (CR.out _).mono ?_
      rintro _ _ ⟨rfl, rfl⟩
      obtain ⟨ht_0, ht_1⟩ := (HT.out.ext (xw1.trans (xw2.trans (xq3.trans (z5.trans (xq4.trans (z7.trans (xq5.trans (z9.trans (xw6.trans (xw7.trans (xw8.trans xw9)))))))))))).at2
      obtain ⟨h3_0, h3_1⟩ := (H3.out.ext (xq4.trans (z7.trans (xq5.trans (z9.trans (xw6.trans (xw7.trans (xw8.trans xw9)))))))).at2
      obtain ⟨h4_0, h4_1⟩ := (H4.out.ext (xq5.trans (z9.trans (xw6.trans (xw7.trans (xw8.trans xw9)))))).at2
      obtain ⟨h5_0, h5_1⟩ := (H5.out.ext (xw6.trans (xw7.trans (xw8.trans xw9)))).at2
      go_wp2_with fail
      refine (DL.out _ _ (HV.out.ext (z1.trans (xw1.trans (xw2.trans (xq3.trans (z5.trans (xq4.trans (z7.trans (xq5.trans (z9.trans (xw6.trans (xw7.trans (xw8.trans xw9)))))))))))))).mono ?_
      rintro _ wa ⟨rfl, xwa⟩
      clear ht_0 ht_1 h3_0 h3_1 h4_0 h4_1 h5_0 h5_1
      go_wp2_with fail
      go_ret
      exact ⟨ret_bool (by simp), (z1.trans (xw1.trans (xw2.trans (xq3.trans (z5.trans (xq4.trans (z7.trans (xq5.trans (z9.trans (xw6.trans (xw7.trans (xw8.trans (xw9.trans xwa)))))))))))))⟩
    · go_enter Try.func3, Try.ntmps3
      have z1 := (Ext.refl w).alloc (.cells #[.slice a xs.length cap, .int .i64 k] 25)
      go_wp2_with fail
      refine (awake10 _).mono ?_
      rintro _ w1 ⟨rfl, xw1⟩
      obtain ⟨ht_0, ht_1⟩ := (HT.out.ext xw1).at2
      go_wp2_with fail
      refine (C10.out _ (z1.trans xw1)).mono ?_
      rintro _ w2 ⟨rfl, xw2⟩
      clear ht_0 ht_1
      obtain ⟨ht_0, ht_1⟩ := (HT.out.ext (xw1.trans xw2)).at2
      go_wp2_with fail
      refine (D1.out _ _ (HV.out.ext (z1.trans (xw1.trans xw2)))).mono ?_
      rintro _ q3 ⟨v3, rfl, i3, xq3⟩
      clear ht_0 ht_1
      have I3 := hid i3
      obtain ⟨a3, c3, rfl, -, -, -⟩ := i3
      have z5 := (Ext.refl q3).alloc (.cells #[.slice a3 xs.length c3, .int .i64 k] 25)
      have H3 := hid (Blk.new q3 25 #[.slice a3 xs.length c3, .int .i64 k])
      obtain ⟨ht_0, ht_1⟩ := (HT.out.ext (xw1.trans (xw2.trans (xq3.trans z5)))).at2
      go_wp2_with fail
      refine (D2.out _ _ (HV.out.ext (z1.trans (xw1.trans (xw2.trans (xq3.trans z5)))))).mono ?_
      rintro _ q4 ⟨v4, u4, rfl, j4, i4, xq4⟩
      clear ht_0 ht_1
      have J4 := hid j4
      have I4 := hid i4
      obtain ⟨b4, d4, rfl, -, -, -⟩ := j4
      obtain ⟨a4, c4, rfl, -, -, -⟩ := i4
      have z7 := (Ext.refl q4).alloc (.cells #[.slice a4 xs.length c4, .int .i64 k] 25)
      have H4 := hid (Blk.new q4 25 #[.slice a4 xs.length c4, .int .i64 k])
      obtain ⟨ht_0, ht_1⟩ := (HT.out.ext (xw1.trans (xw2.trans (xq3.trans (z5.trans (xq4.trans z7)))))).at2
      go_wp2_with fail
      refine (D3.out _ _ (HV.out.ext (z1.trans (xw1.trans (xw2.trans (xq3.trans (z5.trans (xq4.trans z7)))))))).mono ?_
      rintro _ q5 ⟨v5, u5, rfl, j5, i5, xq5⟩
      clear ht_0 ht_1
      have J5 := hid j5
      have I5 := hid i5
      obtain ⟨b5, d5, rfl, -, -, -⟩ := j5
      obtain ⟨a5, c5, rfl, -, -, -⟩ := i5
      have z9 := (Ext.refl q5).alloc (.cells #[.slice a5 xs.length c5, .int .i64 k] 25)
      have H5 := hid (Blk.new q5 25 #[.slice a5 xs.length c5, .int .i64 k])
      obtain ⟨ht_0, ht_1⟩ := (HT.out.ext (xw1.trans (xw2.trans (xq3.trans (z5.trans (xq4.trans (z7.trans (xq5.trans z9)))))))).at2
      go_wp2_with fail
      refine (CT.out _ (z1.trans (xw1.trans (xw2.trans (xq3.trans (z5.trans (xq4.trans (z7.trans (xq5.trans z9))))))))).mono ?_
      rintro _ w6 ⟨rfl, xw6⟩
      clear ht_0 ht_1
      go_wp2_with fail
      refine (CC1.out _).mono ?_
      rintro _ _ ⟨rfl, rfl⟩
      go_wp2_with fail
      refine (CC2.out _).mono ?_
      rintro _ _ ⟨rfl, rfl⟩
      obtain ⟨ht_0, ht_1⟩ := (HT.out.ext (xw1.trans (xw2.trans (xq3.trans (z5.trans (xq4.trans (z7.trans (xq5.trans (z9.trans xw6))))))))).at2
      obtain ⟨h3_0, h3_1⟩ := (H3.out.ext (xq4.trans (z7.trans (xq5.trans (z9.trans xw6))))).at2
      go_wp2_with fail
      refine (CS.out _ _ _ (I3.out.ext (z5.trans (xq4.trans (z7.trans (xq5.trans (z9.trans xw6)))))) (HV.out.ext (z1.trans (xw1.trans (xw2.trans (xq3.trans (z5.trans (xq4.trans (z7.trans (xq5.trans (z9.trans xw6))))))))))).mono ?_
      rintro _ w7 ⟨rfl, xw7⟩
      clear ht_0 ht_1 h3_0 h3_1
      obtain ⟨ht_0, ht_1⟩ := (HT.out.ext (xw1.trans (xw2.trans (xq3.trans (z5.trans (xq4.trans (z7.trans (xq5.trans (z9.trans (xw6.trans xw7)))))))))).at2
      obtain ⟨h4_0, h4_1⟩ := (H4.out.ext (xq5.trans (z9.trans (xw6.trans xw7)))).at2
      go_wp2_with fail
      refine (CS.out _ _ _ (I4.out.ext (z7.trans (xq5.trans (z9.trans (xw6.trans xw7))))) (HV.out.ext (z1.trans (xw1.trans (xw2.trans (xq3.trans (z5.trans (xq4.trans (z7.trans (xq5.trans (z9.trans (xw6.trans xw7)))))))))))).mono ?_
      rintro _ w8 ⟨rfl, xw8⟩
      clear ht_0 ht_1 h4_0 h4_1
      obtain ⟨ht_0, ht_1⟩ := (HT.out.ext (xw1.trans (xw2.trans (xq3.trans (z5.trans (xq4.trans (z7.trans (xq5.trans (z9.trans (xw6.trans (xw7.trans xw8))))))))))).at2
      obtain ⟨h5_0, h5_1⟩ := (H5.out.ext (xw6.trans (xw7.trans xw8))).at2
      go_wp2_with fail
      refine (CS.out _ _ _ (I5.out.ext (z9.trans (xw6.trans (xw7.trans xw8)))) (HV.out.ext (z1.trans (xw1.trans (xw2.trans (xq3.trans (z5.trans (xq4.trans (z7.trans (xq5.trans (z9.trans (xw6.trans (xw7.trans xw8))))))))))))).mono ?_
      rintro _ w9 ⟨rfl, xw9⟩
      clear ht_0 ht_1 h5_0 h5_1
      go_wp2_with fail
      refine (CR.out _).mono ?_
      rintro _ _ ⟨rfl, rfl⟩
      obtain ⟨ht_0, ht_1⟩ := (HT.out.ext (xw1.trans (xw2.trans (xq3.trans (z5.trans (xq4.trans (z7.trans (xq5.trans (z9.trans (xw6.trans (xw7.trans (xw8.trans xw9)))))))))))).at2
      obtain ⟨h3_0, h3_1⟩ := (H3.out.ext (xq4.trans (z7.trans (xq5.trans (z9.trans (xw6.trans (xw7.trans (xw8.trans xw9)))))))).at2
      obtain ⟨h4_0, h4_1⟩ := (H4.out.ext (xq5.trans (z9.trans (xw6.trans (xw7.trans (xw8.trans xw9)))))).at2
      obtain ⟨h5_0, h5_1⟩ := (H5.out.ext (xw6.trans (xw7.trans (xw8.trans xw9)))).at2
      go_wp2_with fail
      refine (DL.out _ _ (HV.out.ext (z1.trans (xw1.trans (xw2.trans (xq3.trans (z5.trans (xq4.trans (z7.trans (xq5.trans (z9.trans (xw6.trans (xw7.trans (xw8.trans xw9)))))))))))))).mono ?_
      rintro _ wa ⟨rfl, xwa⟩
      clear ht_0 ht_1 h3_0 h3_1 h4_0 h4_1 h5_0 h5_1
      go_wp2_with fail
      go_ret
      exact ⟨ret_bool (by simp), (z1.trans (xw1.trans (xw2.trans (xq3.trans (z5.trans (xq4.trans (z7.trans (xq5.trans (z9.trans (xw6.trans (xw7.trans (xw8.trans (xw9.trans xwa)))))))))))))⟩
end Go.Proofs.Ytcganfmlfoebpaa.tapeRight
