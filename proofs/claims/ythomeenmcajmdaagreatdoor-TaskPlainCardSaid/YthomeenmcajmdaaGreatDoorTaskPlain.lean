import Derived.Test.YthomeenmcajmdaaGreatDoorBun29
import Derived.Test.YthomeenmcajmdaaGreatDoorTkS
import Derived.Test.YthomeenmcajmdaaGreatDoorBun22
namespace Go.Proofs.YthomeenmcajmdaaGreatDoor.taskPlain
open Go.ChangeShapes Go.WideShapes Go.ChangeAt Go.RowKit Go.Maps
theorem plain_kinds {k p r c : Int} (h : plainB k p r c = true) : k ≠ 1 ∧ k ≠ 7 := by
  constructor <;> rintro rfl <;> simp [plainB] at h
set_option maxRecDepth 100000 in
set_option maxHeartbeats 2000000 in
theorem walk (k p0 r c : Int) (u : Value) (xs : List Int) (w : World) (_hk : (Lit.int .i64 k).wf = true) (hp0 : (Lit.int .u64 p0).wf = true) (_hr : (Lit.int .i64 r).wf = true) (_hc : (Lit.int .i64 c).wf = true) (hu : Ints .u64 w u xs) (hx0 : ∀ x ∈ xs, (Lit.int .u64 x).wf = true) (hT : Tab w) :
    Calls Tryz.prog 4 #[.int .i64 k, .int .u64 p0, .agg #[.int .i64 r, .int .i64 c, u]] w (Ret (.bool true) w) := by
  have hx : U64s xs := fun x hx => u64_wf (hx0 x hx)
  have hp1 := u64_wf hp0
  have HT := hid hT
  obtain ⟨p, ep⟩ : ∃ p, p0 % 16777216 = p := ⟨_, rfl⟩
  have hp2 : 0 ≤ p ∧ p < 16777216 := by omega
  have Hu := hid hu; have Hx := hid hx
  obtain ⟨a, cap, rfl, -, -, -⟩ := hu
  obtain ⟨N, hN⟩ : ∃ N, xs.length = N := ⟨_, rfl⟩
  have HN := hid hN
  rw [hN] at Hu ⊢
  clear hN hx hx0 hT hp0
  by_cases hl : 25 < N
  · have t1 : decide ((25 : Int) < (N : Int)) = true := decide_eq_true (by omega)
    have t2 : decide (25 < N) = true := decide_eq_true hl
    have HL := hid hl
    clear hl
    go_enter Tryz.func4, Tryz.ntmps4
    have z1 := (Ext.refl w).alloc (.cells #[.int .i64 r, .int .i64 c, .slice a N cap] 26)
    have HM := hid (Blk.new w 26 #[.int .i64 r, .int .i64 c, .slice a N cap])
    go_wp2_with fail
    refine (awake16 _ (HT.out.ext z1)).mono ?_
    rintro _ w1 ⟨rfl, x1⟩
    obtain ⟨hm_0, hm_1, hm_2⟩ := (HM.out.ext x1).at3
    go_wp2_with fail
    go_ret
    exact ⟨rfl, (z1.trans x1)⟩
  have t1 : decide ((25 : Int) < (N : Int)) = false := decide_eq_false (by omega)
  have t2 : decide (25 < N) = false := decide_eq_false hl
  have CB := hid fun (W : World) (hW : Ext w W) => Build_at p W hp2.1 hp2.2 (HT.out.ext hW)
  have CZ := hid fun (W : World) (pa : Option Addr) (pc : Nat) (ua : Option Addr) (uc : Nat) (h : TkR W ⟨0, 0, [], 0, 0, [], 0, 0, [], []⟩ (.slice pa 0 pc) (.slice ua 0 uc) (.slice none 0 0) (.slice none 0 0)) =>
    (show Calls Tryz.prog 18 #[.agg #[.int .i64 0, .int .u64 0, .slice pa 0 pc, .int .i64 0, .int .i64 0, .slice ua 0 uc, .int .i64 0, .int .i64 0, .slice none 0 0, .slice none 0 0], .agg #[.int .i64 0, .int .u64 0, .slice none 0 0, .int .i64 0, .int .i64 0, .slice none 0 0, .int .i64 0, .int .i64 0, .slice none 0 0, .slice none 0 0]] W (Ret (.bool true) W) from
      tkSame Tsk.zero _ _ _ _ _ _ _ _ W h (TkR.zero W))
  clear hl
  by_cases he : bErr p = 0
  · obtain ⟨L0, hL0⟩ : ∃ L0, (bList p).length = L0 := ⟨_, rfl⟩
    have CR := hid fun (W : World) (pv u' : Value) (h : TkR W (plT k p r c xs) pv u' (.slice none 0 0) (.slice none 0 0)) => tkRight _ _ _ _ _ W h (plT_z hp2.1 hp2.2 Hx.out (fun _ => bf_of hp2.1 hp2.2 he))
    by_cases hE : plE k p r c xs = 0
    · have hR := plT_right hE
      obtain ⟨g1, g2, g3⟩ := (plE_iff hp2.1 hp2.2).1 hE
      obtain ⟨k1, k7⟩ := plain_kinds g3
      have t3 : (k == 1) = false := beq_eq_false_iff_ne.2 k1
      have t4 : (k == 7) = false := beq_eq_false_iff_ne.2 k7
      have CP := hid fun (W : World) (hW : Ext w W) => tkPlain_yes k p r c _ xs W hp2.1 hp2.2 (Hu.out.ext hW) Hx.out (HT.out.ext hW) hE hL0 HN.out
      rw [hR] at CR
      rw [he] at CB
      simp only [plT, taskV] at CR
      have CS := hid fun (W : World) (pv u1 pv' u1' : Value) (h : TkR W (plT k p r c xs) pv u1 (.slice none 0 0) (.slice none 0 0)) (h' : TkR W (plT k p r c xs) pv' u1' (.slice none 0 0) (.slice none 0 0)) => tkSame (plT k p r c xs) pv u1 _ _ pv' u1' _ _ W h h'
      simp only [plT, taskV] at CS
      have HL0 := hid hL0
      clear hE hR g1 g2 g3 k1 k7 he hL0
      go_enter Tryz.func4, Tryz.ntmps4
      have z1 := (Ext.refl w).alloc (.cells #[.int .i64 r, .int .i64 c, .slice a N cap] 26)
      have HM := hid (Blk.new w 26 #[.int .i64 r, .int .i64 c, .slice a N cap])
      go_wp2_with fail
      refine (awake16 _ (HT.out.ext z1)).mono ?_
      rintro _ w1 ⟨rfl, x1⟩
      obtain ⟨hm_0, hm_1, hm_2⟩ := (HM.out.ext x1).at3
      go_wp2_with fail
      refine (CP.out _ (z1.trans x1)).mono ?_
      rintro _ w2 ⟨pa2, pc2, ua2, uc2, rfl, hr2, hz2, xw2⟩
      clear hm_0 hm_1 hm_2
      have HR2 := hid hr2; have HZ2 := hid hz2
      clear hr2 hz2
      have z4 := (Ext.refl w2).alloc (.cells #[.int .i64 k, .int .u64 p, .slice pa2 L0 pc2, .int .i64 r, .int .i64 c, .slice ua2 N uc2, .int .i64 0, .int .i64 0, .slice none 0 0, .slice none 0 0] 28)
      have HD := hid (Blk.new w2 28 #[.int .i64 k, .int .u64 p, .slice pa2 L0 pc2, .int .i64 r, .int .i64 c, .slice ua2 N uc2, .int .i64 0, .int .i64 0, .slice none 0 0, .slice none 0 0])
      go_wp2_with fail
      refine (CB.out _ (z1.trans (x1.trans (xw2.trans z4)))).mono ?_
      rintro _ w3 ⟨v3, ⟨rfl, x3⟩, hb3, -⟩
      have HB3 := hid hb3
      obtain ⟨pa3, pc3, rfl, -, -, -⟩ := hb3
      rw [HL0.out] at HB3 ⊢
      obtain ⟨hm_0, hm_1, hm_2⟩ := (HM.out.ext (x1.trans (xw2.trans (z4.trans x3)))).at3
      have z6 := (Ext.refl w3).alloc (.cells #[.int .i64 k, .int .u64 p, .slice pa3 L0 pc3, .int .i64 r, .int .i64 c, .slice a N cap, .int .i64 0, .int .i64 0, .slice none 0 0, .slice none 0 0] 28)
      have HW := hid (Blk.new w3 28 #[.int .i64 k, .int .u64 p, .slice pa3 L0 pc3, .int .i64 r, .int .i64 c, .slice a N cap, .int .i64 0, .int .i64 0, .slice none 0 0, .slice none 0 0])
      obtain ⟨hw_0, hw_1, hw_2, hw_3, hw_4, hw_5, hw_6, hw_7, hw_8, hw_9⟩ := HW.out.at10
      go_wp2_with fail
      refine (CR.out _ _ _ ⟨(HB3.out.ext z6), Hu.out.ext (z1.trans (x1.trans (xw2.trans (z4.trans (x3.trans z6))))), Ints.nil, Ints.nil⟩).mono ?_
      rintro _ w5 ⟨rfl, xw5⟩
      clear hw_0 hw_1 hw_2 hw_3 hw_4 hw_5 hw_6 hw_7 hw_8 hw_9
      obtain ⟨hd_0, hd_1, hd_2, hd_3, hd_4, hd_5, hd_6, hd_7, hd_8, hd_9⟩ := (HD.out.ext (x3.trans (z6.trans xw5))).at10
      obtain ⟨hw_0, hw_1, hw_2, hw_3, hw_4, hw_5, hw_6, hw_7, hw_8, hw_9⟩ := (HW.out.ext xw5).at10
      go_wp2_with fail
      refine (CS.out _ _ _ _ _ (HR2.out.ext (z4.trans (x3.trans (z6.trans xw5)))) ⟨(HB3.out.ext (z6.trans xw5)), Hu.out.ext (z1.trans (x1.trans (xw2.trans (z4.trans (x3.trans (z6.trans xw5)))))), Ints.nil, Ints.nil⟩).mono ?_
      rintro _ w6 ⟨rfl, xw6⟩
      clear hd_0 hd_1 hd_2 hd_3 hd_4 hd_5 hd_6 hd_7 hd_8 hd_9 hw_0 hw_1 hw_2 hw_3 hw_4 hw_5 hw_6 hw_7 hw_8 hw_9
      obtain ⟨hd_0, hd_1, hd_2, hd_3, hd_4, hd_5, hd_6, hd_7, hd_8, hd_9⟩ := (HD.out.ext (x3.trans (z6.trans (xw5.trans xw6)))).at10
      go_wp2_with fail
      refine (CR.out _ _ _ (HR2.out.ext (z4.trans (x3.trans (z6.trans (xw5.trans xw6)))))).mono ?_
      rintro _ w7 ⟨rfl, xw7⟩
      clear hd_0 hd_1 hd_2 hd_3 hd_4 hd_5 hd_6 hd_7 hd_8 hd_9
      go_wp2_with fail
      go_ret
      exact ⟨rfl, (z1.trans (x1.trans (xw2.trans (z4.trans (x3.trans (z6.trans (xw5.trans (xw6.trans xw7))))))))⟩
    · have hE1 : plE k p r c xs = 1 := by
        have : taskB (plT k p r c xs) = false := by
          cases hb : taskB (plT k p r c xs) with
          | false => rfl
          | true => exact absurd (by unfold plE; rw [if_pos he, if_pos hb]) hE
        unfold plE; rw [if_pos he, this]; rfl
      have hR : taskB (plT k p r c xs) = false := by
        cases hb : taskB (plT k p r c xs) with
        | false => rfl
        | true => exact absurd (by unfold plE; rw [if_pos he, if_pos hb]) hE
      have CP := hid fun (W : World) (hW : Ext w W) => tkPlain_no k p r c _ xs W hp2.1 hp2.2 (Hu.out.ext hW) Hx.out (HT.out.ext hW) hE1 (by decide)
      rw [hR] at CR
      rw [he] at CB
      simp only [plT, taskV] at CR
      have HL0 := hid hL0
      clear hE hE1 hR he hL0
      cases t3 : (k == 1) with
      | true =>
        go_enter Tryz.func4, Tryz.ntmps4
        have z1 := (Ext.refl w).alloc (.cells #[.int .i64 r, .int .i64 c, .slice a N cap] 26)
        have HM := hid (Blk.new w 26 #[.int .i64 r, .int .i64 c, .slice a N cap])
        go_wp2_with fail
        refine (awake16 _ (HT.out.ext z1)).mono ?_
        rintro _ w1 ⟨rfl, x1⟩
        obtain ⟨hm_0, hm_1, hm_2⟩ := (HM.out.ext x1).at3
        go_wp2_with fail
        refine (CP.out _ (z1.trans x1)).mono ?_
        rintro _ w2 ⟨pa2, pc2, ua2, uc2, rfl, hr2, hz2, xw2⟩
        clear hm_0 hm_1 hm_2
        have HR2 := hid hr2; have HZ2 := hid hz2
        clear hr2 hz2
        have z4 := (Ext.refl w2).alloc (.cells #[.int .i64 0, .int .u64 0, .slice pa2 0 pc2, .int .i64 0, .int .i64 0, .slice ua2 0 uc2, .int .i64 0, .int .i64 0, .slice none 0 0, .slice none 0 0] 28)
        have HD := hid (Blk.new w2 28 #[.int .i64 0, .int .u64 0, .slice pa2 0 pc2, .int .i64 0, .int .i64 0, .slice ua2 0 uc2, .int .i64 0, .int .i64 0, .slice none 0 0, .slice none 0 0])
        go_wp2_with fail
        refine (CB.out _ (z1.trans (x1.trans (xw2.trans z4)))).mono ?_
        rintro _ w3 ⟨v3, ⟨rfl, x3⟩, hb3, -⟩
        have HB3 := hid hb3
        obtain ⟨pa3, pc3, rfl, -, -, -⟩ := hb3
        rw [HL0.out] at HB3 ⊢
        obtain ⟨hm_0, hm_1, hm_2⟩ := (HM.out.ext (x1.trans (xw2.trans (z4.trans x3)))).at3
        have z6 := (Ext.refl w3).alloc (.cells #[.int .i64 k, .int .u64 p, .slice pa3 L0 pc3, .int .i64 r, .int .i64 c, .slice a N cap, .int .i64 0, .int .i64 0, .slice none 0 0, .slice none 0 0] 28)
        have HW := hid (Blk.new w3 28 #[.int .i64 k, .int .u64 p, .slice pa3 L0 pc3, .int .i64 r, .int .i64 c, .slice a N cap, .int .i64 0, .int .i64 0, .slice none 0 0, .slice none 0 0])
        obtain ⟨hd_0, hd_1, hd_2, hd_3, hd_4, hd_5, hd_6, hd_7, hd_8, hd_9⟩ := (HD.out.ext (x3.trans z6)).at10
        go_wp2_with fail
        refine (CZ.out _ _ _ _ _ (HR2.out.ext (z4.trans (x3.trans z6)))).mono ?_
        rintro _ w4 ⟨rfl, xw4⟩
        clear hd_0 hd_1 hd_2 hd_3 hd_4 hd_5 hd_6 hd_7 hd_8 hd_9
        go_wp2_with fail
        go_ret
        exact ⟨rfl, (z1.trans (x1.trans (xw2.trans (z4.trans (x3.trans (z6.trans xw4))))))⟩
      | false =>
        cases t4 : (k == 7) with
        | true =>
          go_enter Tryz.func4, Tryz.ntmps4
          have z1 := (Ext.refl w).alloc (.cells #[.int .i64 r, .int .i64 c, .slice a N cap] 26)
          have HM := hid (Blk.new w 26 #[.int .i64 r, .int .i64 c, .slice a N cap])
          go_wp2_with fail
          refine (awake16 _ (HT.out.ext z1)).mono ?_
          rintro _ w1 ⟨rfl, x1⟩
          obtain ⟨hm_0, hm_1, hm_2⟩ := (HM.out.ext x1).at3
          go_wp2_with fail
          refine (CP.out _ (z1.trans x1)).mono ?_
          rintro _ w2 ⟨pa2, pc2, ua2, uc2, rfl, hr2, hz2, xw2⟩
          clear hm_0 hm_1 hm_2
          have HR2 := hid hr2; have HZ2 := hid hz2
          clear hr2 hz2
          have z4 := (Ext.refl w2).alloc (.cells #[.int .i64 0, .int .u64 0, .slice pa2 0 pc2, .int .i64 0, .int .i64 0, .slice ua2 0 uc2, .int .i64 0, .int .i64 0, .slice none 0 0, .slice none 0 0] 28)
          have HD := hid (Blk.new w2 28 #[.int .i64 0, .int .u64 0, .slice pa2 0 pc2, .int .i64 0, .int .i64 0, .slice ua2 0 uc2, .int .i64 0, .int .i64 0, .slice none 0 0, .slice none 0 0])
          go_wp2_with fail
          refine (CB.out _ (z1.trans (x1.trans (xw2.trans z4)))).mono ?_
          rintro _ w3 ⟨v3, ⟨rfl, x3⟩, hb3, -⟩
          have HB3 := hid hb3
          obtain ⟨pa3, pc3, rfl, -, -, -⟩ := hb3
          rw [HL0.out] at HB3 ⊢
          obtain ⟨hm_0, hm_1, hm_2⟩ := (HM.out.ext (x1.trans (xw2.trans (z4.trans x3)))).at3
          have z6 := (Ext.refl w3).alloc (.cells #[.int .i64 k, .int .u64 p, .slice pa3 L0 pc3, .int .i64 r, .int .i64 c, .slice a N cap, .int .i64 0, .int .i64 0, .slice none 0 0, .slice none 0 0] 28)
          have HW := hid (Blk.new w3 28 #[.int .i64 k, .int .u64 p, .slice pa3 L0 pc3, .int .i64 r, .int .i64 c, .slice a N cap, .int .i64 0, .int .i64 0, .slice none 0 0, .slice none 0 0])
          obtain ⟨hd_0, hd_1, hd_2, hd_3, hd_4, hd_5, hd_6, hd_7, hd_8, hd_9⟩ := (HD.out.ext (x3.trans z6)).at10
          go_wp2_with fail
          refine (CZ.out _ _ _ _ _ (HR2.out.ext (z4.trans (x3.trans z6)))).mono ?_
          rintro _ w4 ⟨rfl, xw4⟩
          clear hd_0 hd_1 hd_2 hd_3 hd_4 hd_5 hd_6 hd_7 hd_8 hd_9
          go_wp2_with fail
          go_ret
          exact ⟨rfl, (z1.trans (x1.trans (xw2.trans (z4.trans (x3.trans (z6.trans xw4))))))⟩
        | false =>
          go_enter Tryz.func4, Tryz.ntmps4
          have z1 := (Ext.refl w).alloc (.cells #[.int .i64 r, .int .i64 c, .slice a N cap] 26)
          have HM := hid (Blk.new w 26 #[.int .i64 r, .int .i64 c, .slice a N cap])
          go_wp2_with fail
          refine (awake16 _ (HT.out.ext z1)).mono ?_
          rintro _ w1 ⟨rfl, x1⟩
          obtain ⟨hm_0, hm_1, hm_2⟩ := (HM.out.ext x1).at3
          go_wp2_with fail
          refine (CP.out _ (z1.trans x1)).mono ?_
          rintro _ w2 ⟨pa2, pc2, ua2, uc2, rfl, hr2, hz2, xw2⟩
          clear hm_0 hm_1 hm_2
          have HR2 := hid hr2; have HZ2 := hid hz2
          clear hr2 hz2
          have z4 := (Ext.refl w2).alloc (.cells #[.int .i64 0, .int .u64 0, .slice pa2 0 pc2, .int .i64 0, .int .i64 0, .slice ua2 0 uc2, .int .i64 0, .int .i64 0, .slice none 0 0, .slice none 0 0] 28)
          have HD := hid (Blk.new w2 28 #[.int .i64 0, .int .u64 0, .slice pa2 0 pc2, .int .i64 0, .int .i64 0, .slice ua2 0 uc2, .int .i64 0, .int .i64 0, .slice none 0 0, .slice none 0 0])
          go_wp2_with fail
          refine (CB.out _ (z1.trans (x1.trans (xw2.trans z4)))).mono ?_
          rintro _ w3 ⟨v3, ⟨rfl, x3⟩, hb3, -⟩
          have HB3 := hid hb3
          obtain ⟨pa3, pc3, rfl, -, -, -⟩ := hb3
          rw [HL0.out] at HB3 ⊢
          obtain ⟨hm_0, hm_1, hm_2⟩ := (HM.out.ext (x1.trans (xw2.trans (z4.trans x3)))).at3
          have z6 := (Ext.refl w3).alloc (.cells #[.int .i64 k, .int .u64 p, .slice pa3 L0 pc3, .int .i64 r, .int .i64 c, .slice a N cap, .int .i64 0, .int .i64 0, .slice none 0 0, .slice none 0 0] 28)
          have HW := hid (Blk.new w3 28 #[.int .i64 k, .int .u64 p, .slice pa3 L0 pc3, .int .i64 r, .int .i64 c, .slice a N cap, .int .i64 0, .int .i64 0, .slice none 0 0, .slice none 0 0])
          obtain ⟨hw_0, hw_1, hw_2, hw_3, hw_4, hw_5, hw_6, hw_7, hw_8, hw_9⟩ := HW.out.at10
          go_wp2_with fail
          refine (CR.out _ _ _ ⟨(HB3.out.ext z6), Hu.out.ext (z1.trans (x1.trans (xw2.trans (z4.trans (x3.trans z6))))), Ints.nil, Ints.nil⟩).mono ?_
          rintro _ w5 ⟨rfl, xw5⟩
          clear hw_0 hw_1 hw_2 hw_3 hw_4 hw_5 hw_6 hw_7 hw_8 hw_9
          obtain ⟨hd_0, hd_1, hd_2, hd_3, hd_4, hd_5, hd_6, hd_7, hd_8, hd_9⟩ := (HD.out.ext (x3.trans (z6.trans xw5))).at10
          go_wp2_with fail
          refine (CZ.out _ _ _ _ _ (HR2.out.ext (z4.trans (x3.trans (z6.trans xw5))))).mono ?_
          rintro _ w4 ⟨rfl, xw4⟩
          clear hd_0 hd_1 hd_2 hd_3 hd_4 hd_5 hd_6 hd_7 hd_8 hd_9
          go_wp2_with fail
          go_ret
          exact ⟨rfl, (z1.trans (x1.trans (xw2.trans (z4.trans (x3.trans (z6.trans (xw5.trans xw4)))))))⟩
  · obtain ⟨E, hE⟩ : ∃ E, bErr p = E := ⟨_, rfl⟩
    have hpe : plE k p r c xs = E := by unfold plE; rw [if_neg he]; exact hE
    rw [hE] at he CB
    have t3 : (E == 0) = false := beq_eq_false_iff_ne.2 he
    have t4 : (E != 0) = true := by simpa using he
    have CP := hid fun (W : World) (hW : Ext w W) => tkPlain_no k p r c _ xs W hp2.1 hp2.2 (Hu.out.ext hW) Hx.out (HT.out.ext hW) hpe he
    have HE := hid he
    clear hE hpe he
    go_enter Tryz.func4, Tryz.ntmps4
    have z1 := (Ext.refl w).alloc (.cells #[.int .i64 r, .int .i64 c, .slice a N cap] 26)
    have HM := hid (Blk.new w 26 #[.int .i64 r, .int .i64 c, .slice a N cap])
    go_wp2_with fail
    refine (awake16 _ (HT.out.ext z1)).mono ?_
    rintro _ w1 ⟨rfl, x1⟩
    obtain ⟨hm_0, hm_1, hm_2⟩ := (HM.out.ext x1).at3
    go_wp2_with fail
    refine (CP.out _ (z1.trans x1)).mono ?_
    rintro _ w2 ⟨pa2, pc2, ua2, uc2, rfl, hr2, hz2, xw2⟩
    clear hm_0 hm_1 hm_2
    have HR2 := hid hr2; have HZ2 := hid hz2
    clear hr2 hz2
    have z4 := (Ext.refl w2).alloc (.cells #[.int .i64 0, .int .u64 0, .slice pa2 0 pc2, .int .i64 0, .int .i64 0, .slice ua2 0 uc2, .int .i64 0, .int .i64 0, .slice none 0 0, .slice none 0 0] 28)
    have HD := hid (Blk.new w2 28 #[.int .i64 0, .int .u64 0, .slice pa2 0 pc2, .int .i64 0, .int .i64 0, .slice ua2 0 uc2, .int .i64 0, .int .i64 0, .slice none 0 0, .slice none 0 0])
    go_wp2_with fail
    refine (CB.out _ (z1.trans (x1.trans (xw2.trans z4)))).mono ?_
    rintro _ w3 ⟨v3, ⟨rfl, x3⟩, hb3, -⟩
    have HB3 := hid hb3
    obtain ⟨pa3, pc3, rfl, -, -, -⟩ := hb3
    obtain ⟨hd_0, hd_1, hd_2, hd_3, hd_4, hd_5, hd_6, hd_7, hd_8, hd_9⟩ := (HD.out.ext x3).at10
    go_wp2_with fail
    refine (CZ.out _ _ _ _ _ (HR2.out.ext (z4.trans x3))).mono ?_
    rintro _ w4 ⟨rfl, xw4⟩
    clear hd_0 hd_1 hd_2 hd_3 hd_4 hd_5 hd_6 hd_7 hd_8 hd_9
    go_wp2_with fail
    go_ret
    exact ⟨rfl, (z1.trans (x1.trans (xw2.trans (z4.trans (x3.trans xw4)))))⟩
set_option maxRecDepth 100000 in
theorem contract (H : Type) (enc : TypeId × Value → H) (W : World) (base : Nat) (args : Array Value) (ds gs : List (DataW H)) (before : List MemPlace)
    (hval : ∀ (j : Nat) t v, Tryz.f4.params[j]? = some t → args[j]? = some v → Value.okWide Tryz.prog W .any base t v)
    (hW : DataW.Whole enc Tryz.prog Tryz.f4.params.toList Rows.taskPlainSpec.vars false W args.toList ds gs before) (hL : laidMetH Tryz.prog Rows.taskPlainRow.laid W) :
    Calls Tryz.prog 4 args W fun e W' => ∃ v, e = .returned v ∧ Rows.taskPlainSpec.post enc Tryz.prog Tryz.f4 false true false false W args v W' := by
  have hW' := hW
  obtain ⟨p, q, hA0, hV, rfl, _, _⟩ := hW
  have hA : DataW.TrodAll enc Tryz.prog W 0 (fun _ => true) true Tryz.f4.params.toList args.toList ds p := hA0
  rw [Tryz.params4] at hA hval
  obtain ⟨v0, vs0, d0, ds0, p0, q0, hargs, rfl, rfl, h0, r0⟩ := trodAll_cons hA
  obtain ⟨v1, vs1, d1, ds1, p1, q1, rfl, rfl, rfl, h1, r1⟩ := trodAll_cons r0
  obtain ⟨v2, vs2, d2, ds2, p2, q2, rfl, rfl, rfl, h2, r2⟩ := trodAll_cons r1
  obtain ⟨rfl, rfl, rfl⟩ := trodAll_nil r2
  obtain rfl : args = #[v0, v1, v2] := by cases args; simp_all
  obtain ⟨rfl, rfl⟩ := trodVars_none hV
  obtain ⟨a0, rfl, rfl, rfl, w0⟩ := open_int Tryz.underlying3 (hval 0 3 v0 rfl rfl) h0
  obtain ⟨a1, rfl, rfl, rfl, w1⟩ := open_int Tryz.underlying22 (hval 1 22 v1 rfl rfl) h1
  obtain ⟨mr2, mc2, mu2, xs2, rfl, wr2, wc2, i2, w2⟩ := open_Mat (hval 2 26 v2 rfl rfl) h2
  refine (walk a0 a1 mr2 mc2 mu2 xs2 W w0 w1 wr2 wc2 i2 w2 (laid_tab hL)).mono fun e W' ⟨he, hg⟩ => ⟨_, he, ?_⟩
  exact law_post (by kernel_rfl) (by kernel_rfl) rfl Tryz.underlying4 rfl rfl hW' hg
theorem laid_met (os : Os) : laidMet Tryz.prog Rows.taskPlainRow.laid ((laidWorld os).forCall (fun _ _ => 0) ⟨#[], #[.int .i64 0, .int .u64 0, .agg #[.int .i64 0, .int .i64 0, .slice none 0 0]], []⟩).memory :=
  laidMet_of_run' 70 (by kernel_rfl) (by kernel_rfl)
theorem reads (os : Os) {H : Type} (enc : TypeId × Value → H) : ∃ places, DataW.whole enc Tryz.prog ((laidWorld os).forCall (fun _ _ => 0) ⟨#[], #[.int .i64 0, .int .u64 0, .agg #[.int .i64 0, .int .i64 0, .slice none 0 0]], []⟩).memory Tryz.f4.params.toList Rows.taskPlainSpec.vars false #[(Value.int .i64 0), (Value.int .u64 0), (Value.agg #[.int .i64 0, .int .i64 0, .slice none 0 0])].toList 8 = some ([.lit (.int .i64 0), .lit (.int .u64 0), .agg [.lit (.int .i64 0), .lit (.int .i64 0), .nil]], [], places) :=
  ⟨[], by kernel_rfl⟩
set_option maxRecDepth 100000 in
theorem lifted (os : Os) (started : os.Started) (H : Type) (enc : TypeId × Value → H) (F : Stop.Interp) :
    ReturnsInHanded {} Tryz.checked os 4 .any ((OpenSpec.ofChange Rows.taskPlainSpec).preRow enc Tryz.prog Tryz.f4 Rows.taskPlainRow.domain false Rows.taskPlainRow.laid) (((OpenSpec.ofChange Rows.taskPlainSpec).at F).post enc Tryz.prog Tryz.f4 false true false false) := by
  obtain ⟨places, hx⟩ := reads os enc
  refine returnsInHanded_of_row (C := Tryz.checked) (s := OpenSpec.ofChange Rows.taskPlainSpec) own started (by kernel_rfl) Tryz.func4
    (witness_row_at (enc := enc) (C := Tryz.checked) false (laidWorld os) #[.int .i64 0, .int .u64 0, .agg #[.int .i64 0, .int .i64 0, .slice none 0 0]] rfl (by kernel_rfl) (by kernel_rfl) (by kernel_rfl)
      (OpenSpec.preRow_of_cond 8 hx (by kernel_rfl) (fun k hk => by cases hk) (by kernel_rfl) (laid_met os))) ?_
  intro W base args ds gs before hval hW _ _ _ hL _ _
  exact contract H enc W base args ds gs before hval hW hL
theorem said : Rows.TaskPlainSaid :=
  OpenClaim.holds_of_cond 4 Tryz.f4 rfl rfl rfl rfl rfl rfl rfl ⟨rfl, rfl, rfl, rfl, rfl⟩ rfl rfl rfl rfl rfl (by kernel_rfl) Tryz.func4 (by kernel_rfl)
    (of_decide_eq_true (by kernel_rfl)) (by unfold Func.isWrapper; first | (rw [if_pos (by decide +kernel)]; kernel_rfl) | (rw [if_neg (by decide +kernel)]; exact ⟨rfl, rfl⟩))
    (fun os started H enc _ F => by rw [OpenClaim.pre_eq_preRow]; exact lifted os started H enc F)
theorem plain (f : FuncId) (fn : Func) (hf : Tryz.pinned.checked.prog.funcNamed "affidavit/affidavitlaw16.TaskPlain" = some f) (hfn : Tryz.pinned.checked.prog.funcs[f]? = some fn) :
    false = Tryz.pinned.checked.prog.looks [] ∧ ∀ (j : Nat) t, fn.params[j]? = some t → Tryz.pinned.checked.prog.wantsStandIn t = false := by
  obtain rfl : f = 4 := Option.some.inj ((show Tryz.prog.funcNamed "affidavit/affidavitlaw16.TaskPlain" = some 4 by kernel_rfl).symm.trans hf) |>.symm
  obtain rfl : fn = Tryz.f4 := (Option.some.inj (Tryz.func4.symm.trans hfn)).symm
  refine ⟨by kernel_rfl, fun j t ht => ?_⟩
  rw [Tryz.params4] at ht
  have hm : t ∈ ([3, 22, 26] : List Nat) := by simpa using Array.mem_of_getElem? ht
  have hall : ∀ t ∈ ([3, 22, 26] : List Nat), Tryz.prog.wantsStandIn t = false := List.all_eq_true.1 (show ([3, 22, 26] : List Nat).all (fun t => Tryz.prog.wantsStandIn t == false) = true by kernel_rfl) |> fun h t ht => by simpa using h t ht
  exact hall t hm
theorem card : Rows.TaskPlainCardSaid :=
  Claim7.holds_tied_plain_at .later [] _ _ _ _ said (fun _ h => by cases h) (by kernel_rfl) (fun _ h => by cases h) taskPlain_row_tie rfl ⟨rfl, rfl⟩ (by kernel_rfl) rfl plain (by kernel_rfl)
end Go.Proofs.YthomeenmcajmdaaGreatDoor.taskPlain
