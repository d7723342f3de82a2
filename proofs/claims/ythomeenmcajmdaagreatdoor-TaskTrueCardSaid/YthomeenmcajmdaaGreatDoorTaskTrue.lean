import Derived.Test.YthomeenmcajmdaaGreatDoorBun29
import Derived.Test.YthomeenmcajmdaaGreatDoorKryC
import Derived.Test.YthomeenmcajmdaaGreatDoorBun22
namespace Go.Proofs.YthomeenmcajmdaaGreatDoor.taskTrue
open Go.ChangeShapes Go.WideShapes Go.ChangeAt Go.RowKit Go.Maps
set_option maxRecDepth 100000 in
set_option maxHeartbeats 2000000 in
theorem walk (p0 r c : Int) (u : Value) (xs : List Int) (w : World) (hp0 : (Lit.int .u64 p0).wf = true) (_hr : (Lit.int .i64 r).wf = true) (_hc : (Lit.int .i64 c).wf = true) (hu : Ints .u64 w u xs) (hx0 : ∀ x ∈ xs, (Lit.int .u64 x).wf = true) (hT : Tab w) :
    Calls Tryz.prog 5 #[.int .u64 p0, .agg #[.int .i64 r, .int .i64 c, u]] w (Ret (.bool true) w) := by
  have hx : U64s xs := fun x hx => u64_wf (hx0 x hx)
  have hp1 := u64_wf hp0
  have HT := hid hT
  obtain ⟨p, ep⟩ : ∃ p, p0 % 16777216 = p := ⟨_, rfl⟩
  have hp2 : 0 ≤ p ∧ p < 16777216 := by omega
  have Hu := hid hu; have Hx := hid hx
  obtain ⟨a, cap, rfl, -, -, -⟩ := hu
  obtain ⟨N, hN⟩ : ∃ N, xs.length = N := ⟨_, rfl⟩
  have HN := hid hN
  rw [hN] at Hu ⊢
  clear hN hx hx0 hT hp0
  by_cases hl : 64 < N
  · have t1 : decide ((64 : Int) < (N : Int)) = true := decide_eq_true (by omega)
    have t2 : decide (64 < N) = true := decide_eq_true hl
    have HL := hid hl
    clear hl
    go_enter Tryz.func5, Tryz.ntmps5
    have z1 := (Ext.refl w).alloc (.cells #[.int .i64 r, .int .i64 c, .slice a N cap] 26)
    have HM := hid (Blk.new w 26 #[.int .i64 r, .int .i64 c, .slice a N cap])
    go_wp2_with fail
    refine (awake16 _ (HT.out.ext z1)).mono ?_
    rintro _ w1 ⟨rfl, x1⟩
    obtain ⟨hm_0, hm_1, hm_2⟩ := (HM.out.ext x1).at3
    go_wp2_with fail
    go_ret
    exact ⟨rfl, (z1.trans x1)⟩
  have t1 : decide ((64 : Int) < (N : Int)) = false := decide_eq_false (by omega)
  have t2 : decide (64 < N) = false := decide_eq_false hl
  clear hl
  by_cases hE : plE 3 p r c xs = 0
  · obtain ⟨L0, hL0⟩ : ∃ L0, (bList p).length = L0 := ⟨_, rfl⟩
    obtain ⟨e1, e2, -⟩ := (plE_iff hp2.1 hp2.2).1 hE
    obtain ⟨m, n, em0, en0, ok0, hf0⟩ := task_ok (plT_z hp2.1 hp2.2 Hx.out (fun _ => bf_of hp2.1 hp2.2 e1)) (plT_right hE)
    have em : r = m := em0
    have en : c = n := en0
    have ok : MatOk p m n xs := ok0
    have hf : Fld p := hf0
    clear em0 en0 ok0 hf0
    subst em; subst en
    have hp3 : 2 ≤ p := (rightB_true ok.hp).1
    have hm := ok.hm; have hn := ok.hn
    have hE4 : plE 4 p m n xs = 0 := (plE_iff hp2.1 hp2.2).2 ⟨e1, e2, rfl⟩
    have CP3 := hid fun (W : World) (hW : Ext w W) => tkPlain_yes 3 p m n _ xs W hp2.1 hp2.2 (Hu.out.ext hW) Hx.out (HT.out.ext hW) hE hL0 HN.out
    have CP4 := hid fun (W : World) (hW : Ext w W) => tkPlain_yes 4 p m n _ xs W hp2.1 hp2.2 (Hu.out.ext hW) Hx.out (HT.out.ext hW) hE4 hL0 HN.out
    have CK := hid fun (W : World) (hW : Ext w W) => cmRank p m n _ xs W ok hf (Hu.out.ext hW)
    unfold matV at CK
    obtain ⟨U, hU⟩ : ∃ U, (takeL p m n xs).U.length = U := ⟨_, rfl⟩
    have hUm : U ≤ m := by rw [← hU]; exact (takeL_ok (m := m) (n := n) hp3 hf ok.hx).le
    have hUw : IntKind.u64.wrap (U : Int) = U := by rw [u64_wrap]; omega
    obtain ⟨P, hP⟩ : ∃ P, profZ p m n xs = P := ⟨_, rfl⟩
    have hPU : P.length = U := by rw [← hP, ← hU]; exact profZ_len ok hf
    have CA3 := hid fun (W : World) (pa : Option Addr) (pc : Nat) (ua : Option Addr) (uc : Nat) (h : TkR W ⟨3, p, bList p, m, n, xs, 0, 0, [], []⟩ (.slice pa L0 pc) (.slice ua N uc) (.slice none 0 0) (.slice none 0 0)) (hz : TkZ ⟨3, p, bList p, m, n, xs, 0, 0, [], []⟩) => tkAns h hz (ansE_yes (plT_right hE)) ((ansL_yes (plT_right hE)).trans ((ansP3 rfl rfl).trans (by rw [hU])))
    have CA4 := hid fun (W : World) (pa : Option Addr) (pc : Nat) (ua : Option Addr) (uc : Nat) (h : TkR W ⟨4, p, bList p, m, n, xs, 0, 0, [], []⟩ (.slice pa L0 pc) (.slice ua N uc) (.slice none 0 0) (.slice none 0 0)) (hz : TkZ ⟨4, p, bList p, m, n, xs, 0, 0, [], []⟩) => tkAns h hz (ansE_yes (plT_right hE4)) ((ansL_yes (plT_right hE4)).trans ((ansP4 rfl rfl).trans hP))
    rw [hU] at CK
    by_cases hmn : m = n
    · subst hmn
      have hE2 : plE 2 p m m xs = 0 := (plE_iff hp2.1 hp2.2).2 ⟨e1, e2, by simp [plainB]⟩
      have hE5 : plE 5 p m m xs = 0 := (plE_iff hp2.1 hp2.2).2 ⟨e1, e2, by simp [plainB]⟩
      have CP2 := hid fun (W : World) (hW : Ext w W) => tkPlain_yes 2 p m m _ xs W hp2.1 hp2.2 (Hu.out.ext hW) Hx.out (HT.out.ext hW) hE2 hL0 HN.out
      have CP5 := hid fun (W : World) (hW : Ext w W) => tkPlain_yes 5 p m m _ xs W hp2.1 hp2.2 (Hu.out.ext hW) Hx.out (HT.out.ext hW) hE5 hL0 HN.out
      obtain ⟨D, hD⟩ : ∃ D, detF m (atF m xs) % p = D := ⟨_, rfl⟩
      have hDr := mod_range (detF m (atF m xs)) hp3
      have hdr := det_rank (n := m) hp3 hf ok.hx
      rw [hD] at hDr hdr
      rw [hU] at hdr
      have CA2 := hid fun (W : World) (pa : Option Addr) (pc : Nat) (ua : Option Addr) (uc : Nat) (h : TkR W ⟨2, p, bList p, m, m, xs, 0, 0, [], []⟩ (.slice pa L0 pc) (.slice ua N uc) (.slice none 0 0) (.slice none 0 0)) (hz : TkZ ⟨2, p, bList p, m, m, xs, 0, 0, [], []⟩) => tkAns h hz (ansE_yes (plT_right hE2)) ((ansL_yes (plT_right hE2)).trans ((ansP2 rfl).trans (by rw [hD])))
      have CA5 := hid fun (W : World) (pa : Option Addr) (pc : Nat) (ua : Option Addr) (uc : Nat) (h : TkR W ⟨5, p, bList p, m, m, xs, 0, 0, [], []⟩ (.slice pa L0 pc) (.slice ua N uc) (.slice none 0 0) (.slice none 0 0)) (hz : TkZ ⟨5, p, bList p, m, m, xs, 0, 0, [], []⟩) => tkAns h hz (ansE_yes (plT_right hE5)) ((ansL_yes (plT_right hE5)).trans ((ansP5 rfl).trans (by rw [hD])))
      have hmd := min_det ok hf (minP_is (n := m) (xs := xs) (hf.has hp3))
      have hm2 := IsMin.two (minP_is (n := m) (xs := xs) (hf.has hp3)) hp3 (by omega)
      rw [hD] at hmd
      obtain ⟨BD, hBD⟩ : ∃ BD, (D == 0) = BD := ⟨_, rfl⟩
      rw [hBD] at CA2
      have hUB : decide (U < m) = BD := by
        rw [← hBD, Bool.eq_iff_iff, decide_eq_true_eq, beq_iff_eq, hdr]; omega
      have hUB2 : decide ((U : Int) < (m : Int)) = BD := by rw [← hUB, Bool.eq_iff_iff]; simp
      have w1' : IntKind.i64.wrap (4 * (m : Int)) = 4 * m := by simp [IntKind.wrap, IntKind.bits, IntKind.signed]; omega
      have w2' : IntKind.i64.wrap (4 * (m : Int) + 1) = 4 * m + 1 := by simp [IntKind.wrap, IntKind.bits, IntKind.signed]; omega
      have w3' : IntKind.u64.wrap (4 * (m : Int) + 1) = 4 * m + 1 := by rw [u64_wrap]; omega
      have HBD := hid hBD
      by_cases hp6 : p ≤ 4 * (m : Int) + 1
      · have hE6 : plE 6 p m m xs = 1 := plE_arg hp2.1 hp2.2 e1 (by
          show (decide ((m : Int) = m) && decide (4 * (m : Int) + 1 < p)) = false
          rw [decide_eq_false (show ¬ 4 * (m : Int) + 1 < p by omega), Bool.and_false])
        have CP6 := hid fun (W : World) (hW : Ext w W) => tkPlain_no 6 p m m _ xs W hp2.1 hp2.2 (Hu.out.ext hW) Hx.out (HT.out.ext hW) hE6 (by decide)
        have t6 : decide (p ≤ 4 * (m : Int) + 1) = true := decide_eq_true hp6
        have HP6 := hid hp6; have HPU := hid hPU
        clear hE hE4 hE2 hE5 hE6 e1 e2 hU hP hD hdr hmd hm2 ok hf hL0 hp6 hPU hBD
        cases BD <;>
        skip
        all_goals (
          go_enter Tryz.func5, Tryz.ntmps5
          have z1 := (Ext.refl w).alloc (.cells #[.int .i64 m, .int .i64 m, .slice a N cap] 26)
          have HM := hid (Blk.new w 26 #[.int .i64 m, .int .i64 m, .slice a N cap])
          go_wp2_with fail
          refine (awake16 _ (HT.out.ext z1)).mono ?_
          rintro _ w1 ⟨rfl, x1⟩
          obtain ⟨hm_0, hm_1, hm_2⟩ := (HM.out.ext x1).at3
          go_wp2_with fail
          refine (CP3.out _ (z1.trans x1)).mono ?_
          rintro _ w2 ⟨pa2, pc2, ua2, uc2, rfl, hr2, hz2, xw2⟩
          clear hm_0 hm_1 hm_2
          have HR2 := hid hr2; have HZ2 := hid hz2
          clear hr2 hz2
          have z4 := (Ext.refl w2).alloc (.cells #[.int .i64 3, .int .u64 p, .slice pa2 L0 pc2, .int .i64 m, .int .i64 m, .slice ua2 N uc2, .int .i64 0, .int .i64 0, .slice none 0 0, .slice none 0 0] 28)
          have HR := hid (Blk.new w2 28 #[.int .i64 3, .int .u64 p, .slice pa2 L0 pc2, .int .i64 m, .int .i64 m, .slice ua2 N uc2, .int .i64 0, .int .i64 0, .slice none 0 0, .slice none 0 0])
          obtain ⟨hm_0, hm_1, hm_2⟩ := (HM.out.ext (x1.trans (xw2.trans z4))).at3
          go_wp2_with fail
          refine (CP4.out _ (z1.trans (x1.trans (xw2.trans z4)))).mono ?_
          rintro _ w3 ⟨pa3, pc3, ua3, uc3, rfl, hr3, hz3, xw3⟩
          clear hm_0 hm_1 hm_2
          have HR3 := hid hr3; have HZ3 := hid hz3
          clear hr3 hz3
          have z6 := (Ext.refl w3).alloc (.cells #[.int .i64 4, .int .u64 p, .slice pa3 L0 pc3, .int .i64 m, .int .i64 m, .slice ua3 N uc3, .int .i64 0, .int .i64 0, .slice none 0 0, .slice none 0 0] 28)
          have HL := hid (Blk.new w3 28 #[.int .i64 4, .int .u64 p, .slice pa3 L0 pc3, .int .i64 m, .int .i64 m, .slice ua3 N uc3, .int .i64 0, .int .i64 0, .slice none 0 0, .slice none 0 0])
          obtain ⟨hr_0, hr_1, hr_2, hr_3, hr_4, hr_5, hr_6, hr_7, hr_8, hr_9⟩ := (HR.out.ext (xw3.trans z6)).at10
          go_wp2_with fail
          refine (CA3.out _ _ _ _ _ (HR2.out.ext (z4.trans (xw3.trans z6))) HZ2.out).mono ?_
          rintro _ w4 ⟨v4, rfl, hv4, xw4⟩
          clear hr_0 hr_1 hr_2 hr_3 hr_4 hr_5 hr_6 hr_7 hr_8 hr_9
          have HV4 := hid hv4
          obtain ⟨va4, vc4, rfl, n4, m4, k4⟩ := hv4
          simp only [List.length_cons, List.length_nil, Nat.zero_add] at HV4 n4 k4 ⊢
          obtain ⟨b4, o4, rfl, hb4, hcell4⟩ := k4 (by simp)
          have G4 := hid (show w4.cell? ⟨b4, o4, none⟩ = some (.int .u64 ((U : Int))) from by simpa using hcell4 0 (by simp))
          have B4 := hid hb4
          clear k4 hcell4 hb4
          obtain ⟨hl_0, hl_1, hl_2, hl_3, hl_4, hl_5, hl_6, hl_7, hl_8, hl_9⟩ := (HL.out.ext xw4).at10
          go_wp2_with fail
          refine (CA4.out _ _ _ _ _ (HR3.out.ext (z6.trans xw4)) HZ3.out).mono ?_
          rintro _ w5 ⟨v5, rfl, hv5, xw5⟩
          clear hl_0 hl_1 hl_2 hl_3 hl_4 hl_5 hl_6 hl_7 hl_8 hl_9
          have HV5 := hid hv5
          obtain ⟨va5, vc5, rfl, -, -, -⟩ := hv5
          rw [HPU.out]
          obtain ⟨hm_0, hm_1, hm_2⟩ := (HM.out.ext (x1.trans (xw2.trans (z4.trans (xw3.trans (z6.trans (xw4.trans xw5))))))).at3
          go_wp2_with fail
          refine (CK.out _ (z1.trans (x1.trans (xw2.trans (z4.trans (xw3.trans (z6.trans (xw4.trans xw5)))))))).mono ?_
          rintro _ w6 ⟨rfl, xw6⟩
          clear hm_0 hm_1 hm_2
          have g4 := ((xw5.trans xw6).cells _ _ B4.out).trans G4.out
          obtain ⟨hm_0, hm_1, hm_2⟩ := (HM.out.ext (x1.trans (xw2.trans (z4.trans (xw3.trans (z6.trans (xw4.trans (xw5.trans xw6)))))))).at3
          go_wp2_with fail
          refine (CP2.out _ (z1.trans (x1.trans (xw2.trans (z4.trans (xw3.trans (z6.trans (xw4.trans (xw5.trans xw6))))))))).mono ?_
          rintro _ w7 ⟨pa7, pc7, ua7, uc7, rfl, hr7, hz7, xw7⟩
          clear hm_0 hm_1 hm_2
          have HR7 := hid hr7; have HZ7 := hid hz7
          clear hr7 hz7
          have z11 := (Ext.refl w7).alloc (.cells #[.int .i64 2, .int .u64 p, .slice pa7 L0 pc7, .int .i64 m, .int .i64 m, .slice ua7 N uc7, .int .i64 0, .int .i64 0, .slice none 0 0, .slice none 0 0] 28)
          have HS := hid (Blk.new w7 28 #[.int .i64 2, .int .u64 p, .slice pa7 L0 pc7, .int .i64 m, .int .i64 m, .slice ua7 N uc7, .int .i64 0, .int .i64 0, .slice none 0 0, .slice none 0 0])
          clear g4
          obtain ⟨hm_0, hm_1, hm_2⟩ := (HM.out.ext (x1.trans (xw2.trans (z4.trans (xw3.trans (z6.trans (xw4.trans (xw5.trans (xw6.trans (xw7.trans z11)))))))))).at3
          obtain ⟨hm_0, hm_1, hm_2⟩ := (HM.out.ext (x1.trans (xw2.trans (z4.trans (xw3.trans (z6.trans (xw4.trans (xw5.trans (xw6.trans (xw7.trans z11)))))))))).at3
          go_wp2_with fail
          refine (CP5.out _ (z1.trans (x1.trans (xw2.trans (z4.trans (xw3.trans (z6.trans (xw4.trans (xw5.trans (xw6.trans (xw7.trans z11))))))))))).mono ?_
          rintro _ w8 ⟨pa8, pc8, ua8, uc8, rfl, hr8, hz8, xw8⟩
          clear hm_0 hm_1 hm_2
          have HR8 := hid hr8; have HZ8 := hid hz8
          clear hr8 hz8
          have z13 := (Ext.refl w8).alloc (.cells #[.int .i64 5, .int .u64 p, .slice pa8 L0 pc8, .int .i64 m, .int .i64 m, .slice ua8 N uc8, .int .i64 0, .int .i64 0, .slice none 0 0, .slice none 0 0] 28)
          have HT5 := hid (Blk.new w8 28 #[.int .i64 5, .int .u64 p, .slice pa8 L0 pc8, .int .i64 m, .int .i64 m, .slice ua8 N uc8, .int .i64 0, .int .i64 0, .slice none 0 0, .slice none 0 0])
          obtain ⟨hs_0, hs_1, hs_2, hs_3, hs_4, hs_5, hs_6, hs_7, hs_8, hs_9⟩ := (HS.out.ext (xw8.trans z13)).at10
          go_wp2_with fail
          refine (CA2.out _ _ _ _ _ (HR7.out.ext (z11.trans (xw8.trans z13))) HZ7.out).mono ?_
          rintro _ w9 ⟨v9, rfl, hv9, xw9⟩
          clear hs_0 hs_1 hs_2 hs_3 hs_4 hs_5 hs_6 hs_7 hs_8 hs_9
          have HV9 := hid hv9
          obtain ⟨va9, vc9, rfl, n9, m9, k9⟩ := hv9
          simp only [List.length_cons, List.length_nil, Nat.zero_add] at HV9 n9 k9 ⊢
          obtain ⟨b9, o9, rfl, hb9, hcell9⟩ := k9 (by simp)
          have G9 := hid (show w9.cell? ⟨b9, o9, none⟩ = some (.int .u64 (bitZ _)) from by simpa using hcell9 0 (by simp))
          have B9 := hid hb9
          clear k9 hcell9 hb9
          obtain ⟨ht5_0, ht5_1, ht5_2, ht5_3, ht5_4, ht5_5, ht5_6, ht5_7, ht5_8, ht5_9⟩ := (HT5.out.ext xw9).at10
          go_wp2_with fail
          refine (CA5.out _ _ _ _ _ (HR8.out.ext (z13.trans xw9)) HZ8.out).mono ?_
          rintro _ w10 ⟨v10, rfl, hv10, xw10⟩
          clear ht5_0 ht5_1 ht5_2 ht5_3 ht5_4 ht5_5 ht5_6 ht5_7 ht5_8 ht5_9
          have HV10 := hid hv10
          obtain ⟨va10, vc10, rfl, n10, m10, k10⟩ := hv10
          simp only [List.length_cons, List.length_nil, Nat.zero_add] at HV10 n10 k10 ⊢
          obtain ⟨b10, o10, rfl, hb10, hcell10⟩ := k10 (by simp)
          have G10 := hid (show w10.cell? ⟨b10, o10, none⟩ = some (.int .u64 (D)) from by simpa using hcell10 0 (by simp))
          have B10 := hid hb10
          clear k10 hcell10 hb10
          obtain ⟨hm_0, hm_1, hm_2⟩ := (HM.out.ext (x1.trans (xw2.trans (z4.trans (xw3.trans (z6.trans (xw4.trans (xw5.trans (xw6.trans (xw7.trans (z11.trans (xw8.trans (z13.trans (xw9.trans xw10)))))))))))))).at3
          have g9 := (xw10.cells _ _ B9.out).trans G9.out
          have g10 := ((Ext.refl _).cells _ _ B10.out).trans G10.out
          have b1 : (D == 0) = _ := HBD.out
          simp only [bitZ, if_true, Bool.false_eq_true, if_false] at g9
          go_wp2_with fail
          go_quiet (fail)
          have dq := (Ext.refl w10).drewN nq
          clear g9 g10
          obtain ⟨hm_0, hm_1, hm_2⟩ := (HM.out.ext (x1.trans (xw2.trans (z4.trans (xw3.trans (z6.trans (xw4.trans (xw5.trans (xw6.trans (xw7.trans (z11.trans (xw8.trans (z13.trans (xw9.trans (xw10.trans dq))))))))))))))).at3
          go_wp2_with fail
          refine (CP6.out _ (z1.trans (x1.trans (xw2.trans (z4.trans (xw3.trans (z6.trans (xw4.trans (xw5.trans (xw6.trans (xw7.trans (z11.trans (xw8.trans (z13.trans (xw9.trans (xw10.trans dq)))))))))))))))).mono ?_
          rintro _ w11 ⟨pa11, pc11, ua11, uc11, rfl, hr11, hz11, xw11⟩
          clear hm_0 hm_1 hm_2
          have HR11 := hid hr11; have HZ11 := hid hz11
          clear hr11 hz11
          have z18 := (Ext.refl w11).alloc (.cells #[.int .i64 0, .int .u64 0, .slice pa11 0 pc11, .int .i64 0, .int .i64 0, .slice ua11 0 uc11, .int .i64 0, .int .i64 0, .slice none 0 0, .slice none 0 0] 28)
          have HQ := hid (Blk.new w11 28 #[.int .i64 0, .int .u64 0, .slice pa11 0 pc11, .int .i64 0, .int .i64 0, .slice ua11 0 uc11, .int .i64 0, .int .i64 0, .slice none 0 0, .slice none 0 0])
          obtain ⟨hm_0, hm_1, hm_2⟩ := (HM.out.ext (x1.trans (xw2.trans (z4.trans (xw3.trans (z6.trans (xw4.trans (xw5.trans (xw6.trans (xw7.trans (z11.trans (xw8.trans (z13.trans (xw9.trans (xw10.trans (dq.trans (xw11.trans z18))))))))))))))))).at3
          go_wp2_with fail
          go_ret
          exact ⟨rfl, (z1.trans (x1.trans (xw2.trans (z4.trans (xw3.trans (z6.trans (xw4.trans (xw5.trans (xw6.trans (xw7.trans (z11.trans (xw8.trans (z13.trans (xw9.trans (xw10.trans (dq.trans (xw11.trans z18)))))))))))))))))⟩
        )
      · have hE6 : plE 6 p m m xs = 0 := (plE_iff hp2.1 hp2.2).2 ⟨e1, e2, by
          show (decide ((m : Int) = m) && decide (4 * (m : Int) + 1 < p)) = true
          rw [decide_eq_true rfl, decide_eq_true (show 4 * (m : Int) + 1 < p by omega)]; rfl⟩
        have CP6 := hid fun (W : World) (hW : Ext w W) => tkPlain_yes 6 p m m _ xs W hp2.1 hp2.2 (Hu.out.ext hW) Hx.out (HT.out.ext hW) hE6 hL0 HN.out
        obtain ⟨Q, hQ⟩ : ∃ Q, minP p m xs = Q := ⟨_, rfl⟩
        rw [hQ] at hmd hm2
        have CA6 := hid fun (W : World) (pa : Option Addr) (pc : Nat) (ua : Option Addr) (uc : Nat) (h : TkR W ⟨6, p, bList p, m, m, xs, 0, 0, [], []⟩ (.slice pa L0 pc) (.slice ua N uc) (.slice none 0 0) (.slice none 0 0)) (hz : TkZ ⟨6, p, bList p, m, m, xs, 0, 0, [], []⟩) => tkAns h hz (ansE_yes (plT_right hE6)) ((ansL_yes (plT_right hE6)).trans ((ansP6 rfl).trans hQ))
        obtain ⟨q0, hq0⟩ : ∃ q0, Q.getD 0 0 = q0 := ⟨_, rfl⟩
        rw [hq0] at hmd
        have hqb : (q0 == 0) = BD := by rw [← hBD, Bool.eq_iff_iff, beq_iff_eq, beq_iff_eq, hmd]
        obtain ⟨QL, hQL⟩ : ∃ QL, Q.length = QL := ⟨_, rfl⟩
        rw [hQL] at hm2
        have t7 : decide ((1 : Int) < (QL : Int)) = true := decide_eq_true (by omega)
        have t8 : decide (1 < QL) = true := decide_eq_true (by omega)
        have t6 : decide (p ≤ 4 * (m : Int) + 1) = false := decide_eq_false hp6
        have HP6 := hid hp6; have HPU := hid hPU; have HQ0 := hid hq0; have HQL := hid hQL
        clear hE hE4 hE2 hE5 hE6 e1 e2 hU hP hD hdr hmd ok hf hL0 hp6 hPU hQ hq0 hQL hBD
        cases BD <;>
        skip
        all_goals (
          go_enter Tryz.func5, Tryz.ntmps5
          have z1 := (Ext.refl w).alloc (.cells #[.int .i64 m, .int .i64 m, .slice a N cap] 26)
          have HM := hid (Blk.new w 26 #[.int .i64 m, .int .i64 m, .slice a N cap])
          go_wp2_with fail
          refine (awake16 _ (HT.out.ext z1)).mono ?_
          rintro _ w1 ⟨rfl, x1⟩
          obtain ⟨hm_0, hm_1, hm_2⟩ := (HM.out.ext x1).at3
          go_wp2_with fail
          refine (CP3.out _ (z1.trans x1)).mono ?_
          rintro _ w2 ⟨pa2, pc2, ua2, uc2, rfl, hr2, hz2, xw2⟩
          clear hm_0 hm_1 hm_2
          have HR2 := hid hr2; have HZ2 := hid hz2
          clear hr2 hz2
          have z4 := (Ext.refl w2).alloc (.cells #[.int .i64 3, .int .u64 p, .slice pa2 L0 pc2, .int .i64 m, .int .i64 m, .slice ua2 N uc2, .int .i64 0, .int .i64 0, .slice none 0 0, .slice none 0 0] 28)
          have HR := hid (Blk.new w2 28 #[.int .i64 3, .int .u64 p, .slice pa2 L0 pc2, .int .i64 m, .int .i64 m, .slice ua2 N uc2, .int .i64 0, .int .i64 0, .slice none 0 0, .slice none 0 0])
          obtain ⟨hm_0, hm_1, hm_2⟩ := (HM.out.ext (x1.trans (xw2.trans z4))).at3
          go_wp2_with fail
          refine (CP4.out _ (z1.trans (x1.trans (xw2.trans z4)))).mono ?_
          rintro _ w3 ⟨pa3, pc3, ua3, uc3, rfl, hr3, hz3, xw3⟩
          clear hm_0 hm_1 hm_2
          have HR3 := hid hr3; have HZ3 := hid hz3
          clear hr3 hz3
          have z6 := (Ext.refl w3).alloc (.cells #[.int .i64 4, .int .u64 p, .slice pa3 L0 pc3, .int .i64 m, .int .i64 m, .slice ua3 N uc3, .int .i64 0, .int .i64 0, .slice none 0 0, .slice none 0 0] 28)
          have HL := hid (Blk.new w3 28 #[.int .i64 4, .int .u64 p, .slice pa3 L0 pc3, .int .i64 m, .int .i64 m, .slice ua3 N uc3, .int .i64 0, .int .i64 0, .slice none 0 0, .slice none 0 0])
          obtain ⟨hr_0, hr_1, hr_2, hr_3, hr_4, hr_5, hr_6, hr_7, hr_8, hr_9⟩ := (HR.out.ext (xw3.trans z6)).at10
          go_wp2_with fail
          refine (CA3.out _ _ _ _ _ (HR2.out.ext (z4.trans (xw3.trans z6))) HZ2.out).mono ?_
          rintro _ w4 ⟨v4, rfl, hv4, xw4⟩
          clear hr_0 hr_1 hr_2 hr_3 hr_4 hr_5 hr_6 hr_7 hr_8 hr_9
          have HV4 := hid hv4
          obtain ⟨va4, vc4, rfl, n4, m4, k4⟩ := hv4
          simp only [List.length_cons, List.length_nil, Nat.zero_add] at HV4 n4 k4 ⊢
          obtain ⟨b4, o4, rfl, hb4, hcell4⟩ := k4 (by simp)
          have G4 := hid (show w4.cell? ⟨b4, o4, none⟩ = some (.int .u64 ((U : Int))) from by simpa using hcell4 0 (by simp))
          have B4 := hid hb4
          clear k4 hcell4 hb4
          obtain ⟨hl_0, hl_1, hl_2, hl_3, hl_4, hl_5, hl_6, hl_7, hl_8, hl_9⟩ := (HL.out.ext xw4).at10
          go_wp2_with fail
          refine (CA4.out _ _ _ _ _ (HR3.out.ext (z6.trans xw4)) HZ3.out).mono ?_
          rintro _ w5 ⟨v5, rfl, hv5, xw5⟩
          clear hl_0 hl_1 hl_2 hl_3 hl_4 hl_5 hl_6 hl_7 hl_8 hl_9
          have HV5 := hid hv5
          obtain ⟨va5, vc5, rfl, -, -, -⟩ := hv5
          rw [HPU.out]
          obtain ⟨hm_0, hm_1, hm_2⟩ := (HM.out.ext (x1.trans (xw2.trans (z4.trans (xw3.trans (z6.trans (xw4.trans xw5))))))).at3
          go_wp2_with fail
          refine (CK.out _ (z1.trans (x1.trans (xw2.trans (z4.trans (xw3.trans (z6.trans (xw4.trans xw5)))))))).mono ?_
          rintro _ w6 ⟨rfl, xw6⟩
          clear hm_0 hm_1 hm_2
          have g4 := ((xw5.trans xw6).cells _ _ B4.out).trans G4.out
          obtain ⟨hm_0, hm_1, hm_2⟩ := (HM.out.ext (x1.trans (xw2.trans (z4.trans (xw3.trans (z6.trans (xw4.trans (xw5.trans xw6)))))))).at3
          go_wp2_with fail
          refine (CP2.out _ (z1.trans (x1.trans (xw2.trans (z4.trans (xw3.trans (z6.trans (xw4.trans (xw5.trans xw6))))))))).mono ?_
          rintro _ w7 ⟨pa7, pc7, ua7, uc7, rfl, hr7, hz7, xw7⟩
          clear hm_0 hm_1 hm_2
          have HR7 := hid hr7; have HZ7 := hid hz7
          clear hr7 hz7
          have z11 := (Ext.refl w7).alloc (.cells #[.int .i64 2, .int .u64 p, .slice pa7 L0 pc7, .int .i64 m, .int .i64 m, .slice ua7 N uc7, .int .i64 0, .int .i64 0, .slice none 0 0, .slice none 0 0] 28)
          have HS := hid (Blk.new w7 28 #[.int .i64 2, .int .u64 p, .slice pa7 L0 pc7, .int .i64 m, .int .i64 m, .slice ua7 N uc7, .int .i64 0, .int .i64 0, .slice none 0 0, .slice none 0 0])
          clear g4
          obtain ⟨hm_0, hm_1, hm_2⟩ := (HM.out.ext (x1.trans (xw2.trans (z4.trans (xw3.trans (z6.trans (xw4.trans (xw5.trans (xw6.trans (xw7.trans z11)))))))))).at3
          obtain ⟨hm_0, hm_1, hm_2⟩ := (HM.out.ext (x1.trans (xw2.trans (z4.trans (xw3.trans (z6.trans (xw4.trans (xw5.trans (xw6.trans (xw7.trans z11)))))))))).at3
          go_wp2_with fail
          refine (CP5.out _ (z1.trans (x1.trans (xw2.trans (z4.trans (xw3.trans (z6.trans (xw4.trans (xw5.trans (xw6.trans (xw7.trans z11))))))))))).mono ?_
          rintro _ w8 ⟨pa8, pc8, ua8, uc8, rfl, hr8, hz8, xw8⟩
          clear hm_0 hm_1 hm_2
          have HR8 := hid hr8; have HZ8 := hid hz8
          clear hr8 hz8
          have z13 := (Ext.refl w8).alloc (.cells #[.int .i64 5, .int .u64 p, .slice pa8 L0 pc8, .int .i64 m, .int .i64 m, .slice ua8 N uc8, .int .i64 0, .int .i64 0, .slice none 0 0, .slice none 0 0] 28)
          have HT5 := hid (Blk.new w8 28 #[.int .i64 5, .int .u64 p, .slice pa8 L0 pc8, .int .i64 m, .int .i64 m, .slice ua8 N uc8, .int .i64 0, .int .i64 0, .slice none 0 0, .slice none 0 0])
          obtain ⟨hs_0, hs_1, hs_2, hs_3, hs_4, hs_5, hs_6, hs_7, hs_8, hs_9⟩ := (HS.out.ext (xw8.trans z13)).at10
          go_wp2_with fail
          refine (CA2.out _ _ _ _ _ (HR7.out.ext (z11.trans (xw8.trans z13))) HZ7.out).mono ?_
          rintro _ w9 ⟨v9, rfl, hv9, xw9⟩
          clear hs_0 hs_1 hs_2 hs_3 hs_4 hs_5 hs_6 hs_7 hs_8 hs_9
          have HV9 := hid hv9
          obtain ⟨va9, vc9, rfl, n9, m9, k9⟩ := hv9
          simp only [List.length_cons, List.length_nil, Nat.zero_add] at HV9 n9 k9 ⊢
          obtain ⟨b9, o9, rfl, hb9, hcell9⟩ := k9 (by simp)
          have G9 := hid (show w9.cell? ⟨b9, o9, none⟩ = some (.int .u64 (bitZ _)) from by simpa using hcell9 0 (by simp))
          have B9 := hid hb9
          clear k9 hcell9 hb9
          obtain ⟨ht5_0, ht5_1, ht5_2, ht5_3, ht5_4, ht5_5, ht5_6, ht5_7, ht5_8, ht5_9⟩ := (HT5.out.ext xw9).at10
          go_wp2_with fail
          refine (CA5.out _ _ _ _ _ (HR8.out.ext (z13.trans xw9)) HZ8.out).mono ?_
          rintro _ w10 ⟨v10, rfl, hv10, xw10⟩
          clear ht5_0 ht5_1 ht5_2 ht5_3 ht5_4 ht5_5 ht5_6 ht5_7 ht5_8 ht5_9
          have HV10 := hid hv10
          obtain ⟨va10, vc10, rfl, n10, m10, k10⟩ := hv10
          simp only [List.length_cons, List.length_nil, Nat.zero_add] at HV10 n10 k10 ⊢
          obtain ⟨b10, o10, rfl, hb10, hcell10⟩ := k10 (by simp)
          have G10 := hid (show w10.cell? ⟨b10, o10, none⟩ = some (.int .u64 (D)) from by simpa using hcell10 0 (by simp))
          have B10 := hid hb10
          clear k10 hcell10 hb10
          obtain ⟨hm_0, hm_1, hm_2⟩ := (HM.out.ext (x1.trans (xw2.trans (z4.trans (xw3.trans (z6.trans (xw4.trans (xw5.trans (xw6.trans (xw7.trans (z11.trans (xw8.trans (z13.trans (xw9.trans xw10)))))))))))))).at3
          have g9 := (xw10.cells _ _ B9.out).trans G9.out
          have g10 := ((Ext.refl _).cells _ _ B10.out).trans G10.out
          have b1 : (D == 0) = _ := HBD.out
          simp only [bitZ, if_true, Bool.false_eq_true, if_false] at g9
          go_wp2_with fail
          go_quiet (fail)
          have dq := (Ext.refl w10).drewN nq
          clear g9
          obtain ⟨hm_0, hm_1, hm_2⟩ := (HM.out.ext (x1.trans (xw2.trans (z4.trans (xw3.trans (z6.trans (xw4.trans (xw5.trans (xw6.trans (xw7.trans (z11.trans (xw8.trans (z13.trans (xw9.trans (xw10.trans dq))))))))))))))).at3
          go_wp2_with fail
          refine (CP6.out _ (z1.trans (x1.trans (xw2.trans (z4.trans (xw3.trans (z6.trans (xw4.trans (xw5.trans (xw6.trans (xw7.trans (z11.trans (xw8.trans (z13.trans (xw9.trans (xw10.trans dq)))))))))))))))).mono ?_
          rintro _ w11 ⟨pa11, pc11, ua11, uc11, rfl, hr11, hz11, xw11⟩
          clear hm_0 hm_1 hm_2
          have HR11 := hid hr11; have HZ11 := hid hz11
          clear hr11 hz11
          have z18 := (Ext.refl w11).alloc (.cells #[.int .i64 6, .int .u64 p, .slice pa11 L0 pc11, .int .i64 m, .int .i64 m, .slice ua11 N uc11, .int .i64 0, .int .i64 0, .slice none 0 0, .slice none 0 0] 28)
          have HQ := hid (Blk.new w11 28 #[.int .i64 6, .int .u64 p, .slice pa11 L0 pc11, .int .i64 m, .int .i64 m, .slice ua11 N uc11, .int .i64 0, .int .i64 0, .slice none 0 0, .slice none 0 0])
          obtain ⟨hm_0, hm_1, hm_2⟩ := (HM.out.ext (x1.trans (xw2.trans (z4.trans (xw3.trans (z6.trans (xw4.trans (xw5.trans (xw6.trans (xw7.trans (z11.trans (xw8.trans (z13.trans (xw9.trans (xw10.trans (dq.trans (xw11.trans z18))))))))))))))))).at3
          obtain ⟨hq_0, hq_1, hq_2, hq_3, hq_4, hq_5, hq_6, hq_7, hq_8, hq_9⟩ := HQ.out.at10
          go_wp2_with fail
          refine (CA6.out _ _ _ _ _ (HR11.out.ext z18) HZ11.out).mono ?_
          rintro _ w12 ⟨v12, rfl, hv12, xw12⟩
          clear hq_0 hq_1 hq_2 hq_3 hq_4 hq_5 hq_6 hq_7 hq_8 hq_9
          obtain ⟨va12, vc12, rfl, n12, m12, k12⟩ := hv12
          rw [HQL.out] at n12 k12 ⊢
          obtain ⟨b12, o12, rfl, hb12, hcell12⟩ := k12 (by omega)
          have g12 : w12.cell? ⟨b12, o12, none⟩ = some (.int .u64 q0) := by have := hcell12 0 (by omega); rw [HQ0.out] at this; simpa using this
          clear k12 hcell12 g10
          have g10 := ((dq.trans (xw11.trans (z18.trans xw12))).cells _ _ B10.out).trans G10.out
          go_wp2_with fail
          go_quiet (fail)
          go_wp2_with fail
          go_ret
          exact ⟨rfl, Ext.drewN (z1.trans (x1.trans (xw2.trans (z4.trans (xw3.trans (z6.trans (xw4.trans (xw5.trans (xw6.trans (xw7.trans (z11.trans (xw8.trans (z13.trans (xw9.trans (xw10.trans (dq.trans (xw11.trans (z18.trans xw12)))))))))))))))))) _⟩
        )
    · have hE2 : plE 2 p m n xs = 1 := plE_arg hp2.1 hp2.2 e1 (by
        show decide ((m : Int) = n) = false
        exact decide_eq_false (by omega))
      have CP2 := hid fun (W : World) (hW : Ext w W) => tkPlain_no 2 p m n _ xs W hp2.1 hp2.2 (Hu.out.ext hW) Hx.out (HT.out.ext hW) hE2 (by decide)
      have t3 : ((m : Int) != (n : Int)) = true := by simp; omega
      have HMN := hid hmn; have HPU := hid hPU
      clear hE hE4 hE2 e1 e2 hU hP ok hf hL0 hmn hPU
      go_enter Tryz.func5, Tryz.ntmps5
      have z1 := (Ext.refl w).alloc (.cells #[.int .i64 m, .int .i64 n, .slice a N cap] 26)
      have HM := hid (Blk.new w 26 #[.int .i64 m, .int .i64 n, .slice a N cap])
      go_wp2_with fail
      refine (awake16 _ (HT.out.ext z1)).mono ?_
      rintro _ w1 ⟨rfl, x1⟩
      obtain ⟨hm_0, hm_1, hm_2⟩ := (HM.out.ext x1).at3
      go_wp2_with fail
      refine (CP3.out _ (z1.trans x1)).mono ?_
      rintro _ w2 ⟨pa2, pc2, ua2, uc2, rfl, hr2, hz2, xw2⟩
      clear hm_0 hm_1 hm_2
      have HR2 := hid hr2; have HZ2 := hid hz2
      clear hr2 hz2
      have z4 := (Ext.refl w2).alloc (.cells #[.int .i64 3, .int .u64 p, .slice pa2 L0 pc2, .int .i64 m, .int .i64 n, .slice ua2 N uc2, .int .i64 0, .int .i64 0, .slice none 0 0, .slice none 0 0] 28)
      have HR := hid (Blk.new w2 28 #[.int .i64 3, .int .u64 p, .slice pa2 L0 pc2, .int .i64 m, .int .i64 n, .slice ua2 N uc2, .int .i64 0, .int .i64 0, .slice none 0 0, .slice none 0 0])
      obtain ⟨hm_0, hm_1, hm_2⟩ := (HM.out.ext (x1.trans (xw2.trans z4))).at3
      go_wp2_with fail
      refine (CP4.out _ (z1.trans (x1.trans (xw2.trans z4)))).mono ?_
      rintro _ w3 ⟨pa3, pc3, ua3, uc3, rfl, hr3, hz3, xw3⟩
      clear hm_0 hm_1 hm_2
      have HR3 := hid hr3; have HZ3 := hid hz3
      clear hr3 hz3
      have z6 := (Ext.refl w3).alloc (.cells #[.int .i64 4, .int .u64 p, .slice pa3 L0 pc3, .int .i64 m, .int .i64 n, .slice ua3 N uc3, .int .i64 0, .int .i64 0, .slice none 0 0, .slice none 0 0] 28)
      have HL := hid (Blk.new w3 28 #[.int .i64 4, .int .u64 p, .slice pa3 L0 pc3, .int .i64 m, .int .i64 n, .slice ua3 N uc3, .int .i64 0, .int .i64 0, .slice none 0 0, .slice none 0 0])
      obtain ⟨hr_0, hr_1, hr_2, hr_3, hr_4, hr_5, hr_6, hr_7, hr_8, hr_9⟩ := (HR.out.ext (xw3.trans z6)).at10
      go_wp2_with fail
      refine (CA3.out _ _ _ _ _ (HR2.out.ext (z4.trans (xw3.trans z6))) HZ2.out).mono ?_
      rintro _ w4 ⟨v4, rfl, hv4, xw4⟩
      clear hr_0 hr_1 hr_2 hr_3 hr_4 hr_5 hr_6 hr_7 hr_8 hr_9
      have HV4 := hid hv4
      obtain ⟨va4, vc4, rfl, n4, m4, k4⟩ := hv4
      simp only [List.length_cons, List.length_nil, Nat.zero_add] at HV4 n4 k4 ⊢
      obtain ⟨b4, o4, rfl, hb4, hcell4⟩ := k4 (by simp)
      have G4 := hid (show w4.cell? ⟨b4, o4, none⟩ = some (.int .u64 ((U : Int))) from by simpa using hcell4 0 (by simp))
      have B4 := hid hb4
      clear k4 hcell4 hb4
      obtain ⟨hl_0, hl_1, hl_2, hl_3, hl_4, hl_5, hl_6, hl_7, hl_8, hl_9⟩ := (HL.out.ext xw4).at10
      go_wp2_with fail
      refine (CA4.out _ _ _ _ _ (HR3.out.ext (z6.trans xw4)) HZ3.out).mono ?_
      rintro _ w5 ⟨v5, rfl, hv5, xw5⟩
      clear hl_0 hl_1 hl_2 hl_3 hl_4 hl_5 hl_6 hl_7 hl_8 hl_9
      have HV5 := hid hv5
      obtain ⟨va5, vc5, rfl, -, -, -⟩ := hv5
      rw [HPU.out]
      obtain ⟨hm_0, hm_1, hm_2⟩ := (HM.out.ext (x1.trans (xw2.trans (z4.trans (xw3.trans (z6.trans (xw4.trans xw5))))))).at3
      go_wp2_with fail
      refine (CK.out _ (z1.trans (x1.trans (xw2.trans (z4.trans (xw3.trans (z6.trans (xw4.trans xw5)))))))).mono ?_
      rintro _ w6 ⟨rfl, xw6⟩
      clear hm_0 hm_1 hm_2
      have g4 := ((xw5.trans xw6).cells _ _ B4.out).trans G4.out
      obtain ⟨hm_0, hm_1, hm_2⟩ := (HM.out.ext (x1.trans (xw2.trans (z4.trans (xw3.trans (z6.trans (xw4.trans (xw5.trans xw6)))))))).at3
      go_wp2_with fail
      refine (CP2.out _ (z1.trans (x1.trans (xw2.trans (z4.trans (xw3.trans (z6.trans (xw4.trans (xw5.trans xw6))))))))).mono ?_
      rintro _ w7 ⟨pa7, pc7, ua7, uc7, rfl, hr7, hz7, xw7⟩
      clear hm_0 hm_1 hm_2
      have HR7 := hid hr7; have HZ7 := hid hz7
      clear hr7 hz7
      have z11 := (Ext.refl w7).alloc (.cells #[.int .i64 0, .int .u64 0, .slice pa7 0 pc7, .int .i64 0, .int .i64 0, .slice ua7 0 uc7, .int .i64 0, .int .i64 0, .slice none 0 0, .slice none 0 0] 28)
      have HS := hid (Blk.new w7 28 #[.int .i64 0, .int .u64 0, .slice pa7 0 pc7, .int .i64 0, .int .i64 0, .slice ua7 0 uc7, .int .i64 0, .int .i64 0, .slice none 0 0, .slice none 0 0])
      clear g4
      obtain ⟨hm_0, hm_1, hm_2⟩ := (HM.out.ext (x1.trans (xw2.trans (z4.trans (xw3.trans (z6.trans (xw4.trans (xw5.trans (xw6.trans (xw7.trans z11)))))))))).at3
      go_wp2_with fail
      go_ret
      exact ⟨rfl, (z1.trans (x1.trans (xw2.trans (z4.trans (xw3.trans (z6.trans (xw4.trans (xw5.trans (xw6.trans (xw7.trans z11))))))))))⟩
  · obtain ⟨E, hE2⟩ : ∃ E, plE 3 p r c xs = E := ⟨_, rfl⟩
    rw [hE2] at hE
    have t4 : (E != 0) = true := by simpa using hE
    have CP := hid fun (W : World) (hW : Ext w W) => tkPlain_no 3 p r c _ xs W hp2.1 hp2.2 (Hu.out.ext hW) Hx.out (HT.out.ext hW) hE2 hE
    have HE := hid hE
    clear hE hE2
    go_enter Tryz.func5, Tryz.ntmps5
    have z1 := (Ext.refl w).alloc (.cells #[.int .i64 r, .int .i64 c, .slice a N cap] 26)
    have HM := hid (Blk.new w 26 #[.int .i64 r, .int .i64 c, .slice a N cap])
    go_wp2_with fail
    refine (awake16 _ (HT.out.ext z1)).mono ?_
    rintro _ w1 ⟨rfl, x1⟩
    obtain ⟨hm_0, hm_1, hm_2⟩ := (HM.out.ext x1).at3
    go_wp2_with fail
    refine (CP.out _ (z1.trans x1)).mono ?_
    rintro _ w2 ⟨pa2, pc2, ua2, uc2, rfl, hr2, hz2, xw2⟩
    clear hm_0 hm_1 hm_2
    have HR2 := hid hr2; have HZ2 := hid hz2
    clear hr2 hz2
    have z4 := (Ext.refl w2).alloc (.cells #[.int .i64 0, .int .u64 0, .slice pa2 0 pc2, .int .i64 0, .int .i64 0, .slice ua2 0 uc2, .int .i64 0, .int .i64 0, .slice none 0 0, .slice none 0 0] 28)
    have HD := hid (Blk.new w2 28 #[.int .i64 0, .int .u64 0, .slice pa2 0 pc2, .int .i64 0, .int .i64 0, .slice ua2 0 uc2, .int .i64 0, .int .i64 0, .slice none 0 0, .slice none 0 0])
    obtain ⟨hm_0, hm_1, hm_2⟩ := (HM.out.ext (x1.trans (xw2.trans z4))).at3
    go_wp2_with fail
    go_ret
    exact ⟨rfl, (z1.trans (x1.trans (xw2.trans z4)))⟩
set_option maxRecDepth 100000 in
theorem contract (H : Type) (enc : TypeId × Value → H) (W : World) (base : Nat) (args : Array Value) (ds gs : List (DataW H)) (before : List MemPlace)
    (hval : ∀ (j : Nat) t v, Tryz.f5.params[j]? = some t → args[j]? = some v → Value.okWide Tryz.prog W .any base t v)
    (hW : DataW.Whole enc Tryz.prog Tryz.f5.params.toList Rows.taskTrueSpec.vars false W args.toList ds gs before) (hL : laidMetH Tryz.prog Rows.taskTrueRow.laid W) :
    Calls Tryz.prog 5 args W fun e W' => ∃ v, e = .returned v ∧ Rows.taskTrueSpec.post enc Tryz.prog Tryz.f5 false true false false W args v W' := by
  have hW' := hW
  obtain ⟨p, q, hA0, hV, rfl, _, _⟩ := hW
  have hA : DataW.TrodAll enc Tryz.prog W 0 (fun _ => true) true Tryz.f5.params.toList args.toList ds p := hA0
  rw [Tryz.params5] at hA hval
  obtain ⟨v0, vs0, d0, ds0, p0, q0, hargs, rfl, rfl, h0, r0⟩ := trodAll_cons hA
  obtain ⟨v1, vs1, d1, ds1, p1, q1, rfl, rfl, rfl, h1, r1⟩ := trodAll_cons r0
  obtain ⟨rfl, rfl, rfl⟩ := trodAll_nil r1
  obtain rfl : args = #[v0, v1] := by cases args; simp_all
  obtain ⟨rfl, rfl⟩ := trodVars_none hV
  obtain ⟨a0, rfl, rfl, rfl, w0⟩ := open_int Tryz.underlying22 (hval 0 22 v0 rfl rfl) h0
  obtain ⟨mr1, mc1, mu1, xs1, rfl, wr1, wc1, i1, w1⟩ := open_Mat (hval 1 26 v1 rfl rfl) h1
  refine (walk a0 mr1 mc1 mu1 xs1 W w0 wr1 wc1 i1 w1 (laid_tab hL)).mono fun e W' ⟨he, hg⟩ => ⟨_, he, ?_⟩
  exact law_post (by kernel_rfl) (by kernel_rfl) rfl Tryz.underlying4 rfl rfl hW' hg
theorem laid_met (os : Os) : laidMet Tryz.prog Rows.taskTrueRow.laid ((laidWorld os).forCall (fun _ _ => 0) ⟨#[], #[.int .u64 0, .agg #[.int .i64 0, .int .i64 0, .slice none 0 0]], []⟩).memory :=
  laidMet_of_run' 70 (by kernel_rfl) (by kernel_rfl)
theorem reads (os : Os) {H : Type} (enc : TypeId × Value → H) : ∃ places, DataW.whole enc Tryz.prog ((laidWorld os).forCall (fun _ _ => 0) ⟨#[], #[.int .u64 0, .agg #[.int .i64 0, .int .i64 0, .slice none 0 0]], []⟩).memory Tryz.f5.params.toList Rows.taskTrueSpec.vars false #[(Value.int .u64 0), (Value.agg #[.int .i64 0, .int .i64 0, .slice none 0 0])].toList 8 = some ([.lit (.int .u64 0), .agg [.lit (.int .i64 0), .lit (.int .i64 0), .nil]], [], places) :=
  ⟨[], by kernel_rfl⟩
set_option maxRecDepth 100000 in
theorem lifted (os : Os) (started : os.Started) (H : Type) (enc : TypeId × Value → H) (F : Stop.Interp) :
    ReturnsInHanded {} Tryz.checked os 5 .any ((OpenSpec.ofChange Rows.taskTrueSpec).preRow enc Tryz.prog Tryz.f5 Rows.taskTrueRow.domain false Rows.taskTrueRow.laid) (((OpenSpec.ofChange Rows.taskTrueSpec).at F).post enc Tryz.prog Tryz.f5 false true false false) := by
  obtain ⟨places, hx⟩ := reads os enc
  refine returnsInHanded_of_row (C := Tryz.checked) (s := OpenSpec.ofChange Rows.taskTrueSpec) own started (by kernel_rfl) Tryz.func5
    (witness_row_at (enc := enc) (C := Tryz.checked) false (laidWorld os) #[.int .u64 0, .agg #[.int .i64 0, .int .i64 0, .slice none 0 0]] rfl (by kernel_rfl) (by kernel_rfl) (by kernel_rfl)
      (OpenSpec.preRow_of_cond 8 hx (by kernel_rfl) (fun k hk => by cases hk) (by kernel_rfl) (laid_met os))) ?_
  intro W base args ds gs before hval hW _ _ _ hL _ _
  exact contract H enc W base args ds gs before hval hW hL
theorem said : Rows.TaskTrueSaid :=
  OpenClaim.holds_of_cond 5 Tryz.f5 rfl rfl rfl rfl rfl rfl rfl ⟨rfl, rfl, rfl, rfl, rfl⟩ rfl rfl rfl rfl rfl (by kernel_rfl) Tryz.func5 (by kernel_rfl)
    (of_decide_eq_true (by kernel_rfl)) (by unfold Func.isWrapper; first | (rw [if_pos (by decide +kernel)]; kernel_rfl) | (rw [if_neg (by decide +kernel)]; exact ⟨rfl, rfl⟩))
    (fun os started H enc _ F => by rw [OpenClaim.pre_eq_preRow]; exact lifted os started H enc F)
theorem plain (f : FuncId) (fn : Func) (hf : Tryz.pinned.checked.prog.funcNamed "affidavit/affidavitlaw16.TaskTrue" = some f) (hfn : Tryz.pinned.checked.prog.funcs[f]? = some fn) :
    false = Tryz.pinned.checked.prog.looks [] ∧ ∀ (j : Nat) t, fn.params[j]? = some t → Tryz.pinned.checked.prog.wantsStandIn t = false := by
  obtain rfl : f = 5 := Option.some.inj ((show Tryz.prog.funcNamed "affidavit/affidavitlaw16.TaskTrue" = some 5 by kernel_rfl).symm.trans hf) |>.symm
  obtain rfl : fn = Tryz.f5 := (Option.some.inj (Tryz.func5.symm.trans hfn)).symm
  refine ⟨by kernel_rfl, fun j t ht => ?_⟩
  rw [Tryz.params5] at ht
  have hm : t ∈ ([22, 26] : List Nat) := by simpa using Array.mem_of_getElem? ht
  have hall : ∀ t ∈ ([22, 26] : List Nat), Tryz.prog.wantsStandIn t = false := List.all_eq_true.1 (show ([22, 26] : List Nat).all (fun t => Tryz.prog.wantsStandIn t == false) = true by kernel_rfl) |> fun h t ht => by simpa using h t ht
  exact hall t hm
theorem card : Rows.TaskTrueCardSaid :=
  Claim7.holds_tied_plain_at .later [] _ _ _ _ said (fun _ h => by cases h) (by kernel_rfl) (fun _ h => by cases h) taskTrue_row_tie rfl ⟨rfl, rfl⟩ (by kernel_rfl) rfl plain (by kernel_rfl)
end Go.Proofs.YthomeenmcajmdaaGreatDoor.taskTrue
