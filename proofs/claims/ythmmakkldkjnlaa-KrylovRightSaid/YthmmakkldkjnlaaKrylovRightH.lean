/- KrylovRight, where the vector is none of the matrix. -/
import Derived.Test.YthmmakkldkjnlaaKrR6
import Derived.Test.YthmmakkldkjnlaaLaw9
import Derived.Test.YthmmakkldkjnlaaBun05
import Derived.Test.YthmmakkldkjnlaaBun14
import Derived.Test.YthmmakkldkjnlaaBun26
namespace Go.Proofs.Ythmmakkldkjnlaa.krylovRight
open Go.ChangeShapes Go.WideShapes Go.ChangeAt Go.RowKit Go.Maps

set_option maxRecDepth 100000 in
set_option maxHeartbeats 4000000 in
theorem walk_h (p : Int) (n : Nat) (v u vf : Value) (xs b f : List Int) (many : Int) (w : World) (h0 : 0 ≤ p) (h1 : p ≤ 18446744073709551615) (hT : takenB p = true) (hx : U64s xs) (hbx : U64s b) (hfx : U64s f) (hxl : xs.length ≤ 25) (hbl : b.length ≤ 10) (hfl : f.length ≤ 10) (hv : Ints .u64 w v xs) (hu : Ints .u64 w u b) (hfv : Ints .u64 w vf f) (hm : ¬ (12 < many ∧ many ≤ 200)) (ok : MatOk p n n xs) (hvb : vecB p n b = false) :
    Calls Try.prog 3 #[.int .u64 p, matV n n v, u, vf, .int .i64 many] w (Ret (.bool true) w) := by
  obtain ⟨CB, KC, OC, EI, hCC, hC0, hC1⟩ := cm_any p vf f h0 h1 hfx hfl
  have CC := hid hCC
  have C1 := hid fun (W : World) => (hT ▸ prime_any09 p W h0 : Calls Try.prog 5 #[.int .u64 p] W fun e w' => e = .returned (.bool true) ∧ W = w')
  obtain ⟨RT, eRT⟩ : ∃ R, rightPB p f = R := ⟨_, rfl⟩
  have CR3 := hid fun (W : World) (hW : Ints .u64 W vf f) => r3Right p vf f W h0 h1 hW hfx
  rw [eRT] at CR3 hC0 hC1
  have HC0 := hid hC0; have HC1 := hid hC1
  obtain ⟨LC, eLC⟩ : ∃ L, OC.length = L := ⟨_, rfl⟩
  have OL := hid eLC
  have HV := hid hv; have HU := hid hu; have HF := hid hfv
  have CHs := hid fun (W : World) (hW : Ext w W) => rHas p u b W h0 h1 (hu.ext hW) hbx
  have hp2 := rightB_true ok.hp
  have hF := taken_fld hT
  have hn := ok.hn
  have hn5 : n ≤ 5 := by
    have h := ok.hl
    have h2 : n * n ≤ 25 := by omega
    exact Nat.le_of_not_lt fun h3 => by
      have := Nat.mul_le_mul h3 h3
      omega
  obtain ⟨h, hh⟩ := MinL.any (hF.has hp2.1) n xs
  have CM := hid fun (W : World) (hW : Ext w W) => krMin p n v xs h W ok hF (hv.ext hW) hh
  have RM := hid fun (W : World) (hW : Ext w W) => r9Min p n v xs h W ok hF (by omega) (hv.ext hW) hh
  have CKs := hid fun (W : World) (hW : Ext w W) => krSame p n vf v f xs h W ok hF (hfv.ext hW) (hv.ext hW) hh
  have CSh := hid fun (W : World) (u u' : Value) (hu : Ints .u64 W u h) (hu' : Ints .u64 W u' h) => same_any u u' h h W hu hu'
  have CSf := hid fun (W : World) (u u' : Value) (hu : Ints .u64 W u f) (hu' : Ints .u64 W u' h) => same_any u u' f h W hu hu'
  rw [decide_eq_true rfl] at CSh
  obtain ⟨DF, eDF⟩ : ∃ D, decide (f = h) = D := ⟨_, rfl⟩
  rw [eDF] at CKs CSf
  have CR5 := hid fun (W : World) (hW : Ext w W) => rmRight p n n v xs W h0 h1 (hv.ext hW) hx
  rw [ok.b] at CR5
  have hq : ((n : Int) == (n : Int)) = true := by simp
  have hbs : besideB p n n xs b = false := by unfold besideB; rw [hvb]; simp
  have CP := hid fun (W : World) (hW : Ext w W) => krPowers_no p n n many v u xs b W h0 h1 (hv.ext hW) hx (hu.ext hW) hbx (by rw [hbs]; simp)
  have CD := hid fun (W : World) (hW : Ext w W) => krDo_no p n n vf v u f xs b W h0 h1 (hfv.ext hW) hfx (hv.ext hW) hx (hu.ext hW) hbx (by rw [hbs]; simp)
  have CO := hid fun (W : World) (hW : Ext w W) => krOf_no p n n v u xs b W h0 h1 (hv.ext hW) hx (hu.ext hW) hbx hbs
  obtain ⟨HB, eHB⟩ : ∃ B, hasB p b = B := ⟨_, rfl⟩
  rw [eHB] at CHs
  unfold vecB at hvb
  rw [eHB] at hvb
  obtain ⟨a, cap, rfl, -, -, -⟩ := hv
  obtain ⟨a', cap', rfl, -, -, -⟩ := hu
  obtain ⟨af, cf, rfl, -, -, -⟩ := hfv
  unfold matV at CP CD CO CM CKs CR5 RM
  unfold RetCm at CC
  unfold RetE at CM
  unfold RetL at RM
  unfold matV
  have HA := hid (Blk.new w 25 #[.int .i64 (n : Int), .int .i64 (n : Int), .slice a xs.length cap])
  have hmm : many ≤ 12 ∨ 200 < many := by omega
  clear hCC hC0 hC1 eRT eLC hbs hx hbx hfx hm hT hh hF ok eHB eDF
  cases HB with
  | false =>
    clear hvb
    rcases hmm with hmm | hmm
    · go_enter Try.func3, Try.ntmps3
      have z1 := (Ext.refl w).alloc (.cells #[.int .i64 (n : Int), .int .i64 (n : Int), .slice a xs.length cap] 25)
      go_wp2_with fail
      refine (awake09 _).mono ?_
      rintro _ w1 ⟨rfl, xw1⟩
      obtain ⟨ha_0, ha_1, ha_2⟩ := (HA.out.ext xw1).at3
      go_wp2_with fail
      refine (C1.out _).mono ?_
      rintro _ _ ⟨rfl, rfl⟩
      obtain ⟨ha_0, ha_1, ha_2⟩ := (HA.out.ext xw1).at3
      go_wp2_with fail
      refine (CP.out _ (z1.trans xw1)).mono ?_
      rintro _ w2 ⟨rfl, xw2⟩
      clear ha_0 ha_1 ha_2
      obtain ⟨ha_0, ha_1, ha_2⟩ := (HA.out.ext (xw1.trans xw2)).at3
      go_wp2_with fail
      refine (CD.out _ (z1.trans (xw1.trans xw2))).mono ?_
      rintro _ w3 ⟨rfl, xw3⟩
      clear ha_0 ha_1 ha_2
      obtain ⟨ha_0, ha_1, ha_2⟩ := (HA.out.ext (xw1.trans (xw2.trans xw3))).at3
      go_wp2_with fail
      refine (CO.out _ (z1.trans (xw1.trans (xw2.trans xw3)))).mono ?_
      rintro _ w4 ⟨rfl, xw4⟩
      clear ha_0 ha_1 ha_2
      obtain ⟨ha_0, ha_1, ha_2⟩ := (HA.out.ext (xw1.trans (xw2.trans (xw3.trans xw4)))).at3
      go_wp2_with fail
      refine (CM.out _ (z1.trans (xw1.trans (xw2.trans (xw3.trans xw4))))).mono ?_
      rintro _ w5 ⟨z5, rfl, i5, xw5⟩
      clear ha_0 ha_1 ha_2
      have I5 := hid i5
      obtain ⟨a5, c5, rfl, -, -, -⟩ := i5
      go_wp2_with fail
      refine (CC.out _ (HF.out.ext (z1.trans (xw1.trans (xw2.trans (xw3.trans (xw4.trans xw5))))))).mono ?_
      rintro _ w6 ⟨z6, rfl, i6, xw6⟩
      have I6 := hid i6
      obtain ⟨a6, c6, rfl, -, -, -⟩ := i6
      rw [OL.out]
      rw [OL.out] at I6
      have z8 := (Ext.refl w6).alloc (.cells #[.int .i64 (KC : Int), .int .i64 (KC : Int), .slice a6 LC c6] 25)
      have HO := hid (Blk.new w6 25 #[.int .i64 (KC : Int), .int .i64 (KC : Int), .slice a6 LC c6])
      obtain ⟨ha_0, ha_1, ha_2⟩ := (HA.out.ext (xw1.trans (xw2.trans (xw3.trans (xw4.trans (xw5.trans (xw6.trans z8))))))).at3
      go_wp2_with fail
      refine (CR5.out _ (z1.trans (xw1.trans (xw2.trans (xw3.trans (xw4.trans (xw5.trans (xw6.trans z8)))))))).mono ?_
      rintro _ w7 ⟨rfl, xw7⟩
      clear ha_0 ha_1 ha_2
      obtain ⟨ha_0, ha_1, ha_2⟩ := (HA.out.ext (xw1.trans (xw2.trans (xw3.trans (xw4.trans (xw5.trans (xw6.trans (z8.trans xw7)))))))).at3
      obtain ⟨ho_0, ho_1, ho_2⟩ := (HO.out.ext xw7).at3
      go_wp2_with fail
      refine (CHs.out _ (z1.trans (xw1.trans (xw2.trans (xw3.trans (xw4.trans (xw5.trans (xw6.trans (z8.trans xw7))))))))).mono ?_
      rintro _ _ ⟨rfl, rfl⟩
      go_wp2_with fail
      refine (CR3.out _ (HF.out.ext (z1.trans (xw1.trans (xw2.trans (xw3.trans (xw4.trans (xw5.trans (xw6.trans (z8.trans xw7)))))))))).mono ?_
      rintro _ _ ⟨rfl, rfl⟩
      go_upto_region 13 with fail
      have XW := hid ((z1.trans (xw1.trans (xw2.trans (xw3.trans (xw4.trans (xw5.trans (xw6.trans (z8.trans xw7)))))))))
      obtain ⟨W, eW⟩ : ∃ W, w7 = W := ⟨_, rfl⟩
      have HAW := hid (HA.out.ext (xw1.trans (xw2.trans (xw3.trans (xw4.trans (xw5.trans (xw6.trans (z8.trans xw7))))))))
      have HOW := hid (HO.out.ext xw7)
      have HVW := hid (HV.out.ext (z1.trans (xw1.trans (xw2.trans (xw3.trans (xw4.trans (xw5.trans (xw6.trans (z8.trans xw7)))))))))
      have HUW := hid (HU.out.ext (z1.trans (xw1.trans (xw2.trans (xw3.trans (xw4.trans (xw5.trans (xw6.trans (z8.trans xw7)))))))))
      have HFW := hid (HF.out.ext (z1.trans (xw1.trans (xw2.trans (xw3.trans (xw4.trans (xw5.trans (xw6.trans (z8.trans xw7)))))))))
      have I6W := hid (I6.out.ext (z8.trans xw7))
      have I5W := hid (I5.out.ext (xw6.trans (z8.trans xw7)))
      rw [eW] at XW HAW HOW HVW HUW HFW I6W I5W
      rw [eW]
      clear eW
      go_cut [135] from 120 to 134 (fun c w' => c = .bool (!CB) ∧ W = w')
      case first =>
        have hfw := HFW.out
        obtain ⟨af9, cf9, ef9, hf1, hf2, hf3⟩ := hfw
        injection ef9 with e91 _ e93
        subst e91
        subst e93
        have HF9 := hid hf3
        clear hf3
        cases CB with
        | false =>
          obtain ⟨-, -, hD⟩ := HC0.out rfl
          rcases hD with hD | hD | hD
          · subst hD
            clear hf1 hf2
            go_wp2_with fail
            go_meet
            exact ⟨rfl, rfl⟩
          · cases RT
            all_goals
              go_wp2_with fail
              go_meet
              exact ⟨congrArg Value.bool (by simp; try omega), rfl⟩
          · by_cases hD2 : f.length < 2
            · cases RT
              all_goals
                go_wp2_with fail
                go_meet
                exact ⟨congrArg Value.bool (by simp; try omega), rfl⟩
            · obtain ⟨kf, ekf⟩ : ∃ kf, f.length = kf + 1 := ⟨f.length - 1, by omega⟩
              obtain ⟨bf, of, rfl, hbf, hcf⟩ := HF9.out (by omega)
              have cf := hcf kf (by omega)
              have hlf : f.getD kf 0 = lead f := by unfold lead; rw [ekf]; rfl
              rw [hlf] at cf
              obtain ⟨y, ey⟩ : ∃ y, lead f = y := ⟨_, rfl⟩
              rw [ey] at cf hD
              have hy : (y != 1) = true := by simpa using hD
              have hki : (f.length : Int) - 1 = (kf : Int) := by omega
              have hkl : kf < f.length := by omega
              clear hcf hlf ey hD ekf
              cases RT
              all_goals
                go_wp2_with fail
                go_meet
                exact ⟨congrArg Value.bool (by simp; try omega), rfl⟩
        | true =>
          obtain ⟨-, -, rfl, hfk, hk1, hk9, hk0, -, -⟩ := HC1.out rfl
          obtain ⟨bf, of, rfl, hbf, hcf⟩ := HF9.out (by omega)
          have cf := hcf KC (by omega)
          rw [hk0] at cf
          have hki : (f.length : Int) - 1 = (KC : Int) := by omega
          have hkl : KC < f.length := by omega
          have hfl2 : ¬ f.length < 2 := by omega
          clear hcf hk0 hfk
          go_wp2_with fail
          go_meet
          exact ⟨congrArg Value.bool (by simp; try omega), rfl⟩
      case rest =>
        obtain ⟨rfl, rfl⟩ := hcut
        obtain ⟨o0, o1, o2⟩ := HOW.out.at3
        go_upto_if 135 with fail
        go_cut [24, 25, 26, 27] from 136 to 199 (fun _ _ _ _ w' => Ext W w')
        case first =>
          have hfw := HFW.out
          obtain ⟨af9, cf9, ef9, hf1, hf2, hf3⟩ := hfw
          injection ef9 with e91 _ e93
          subst e91
          subst e93
          have HF9 := hid hf3
          clear hf3
          cases CB with
          | false =>
            obtain ⟨rfl, rfl, -⟩ := HC0.out rfl
            obtain rfl : LC = 0 := OL.out.symm
            go_wp2_with fail
            go_meet
            exact Ext.refl _
          | true =>
            obtain ⟨rfl, eOC, rfl, hfk, hk1, hk9, hk0, hpf, hrp⟩ := HC1.out rfl
            have hp2 := rightB_true hrp
            obtain ⟨bf, of, rfl, hbf, hcf⟩ := HF9.out (by omega)
            have hki : (f.length : Int) - 1 = (KC : Int) := by omega
            have hLC : LC = KC * KC := by rw [← OL.out, eOC, compL_len]
            have hqi : (KC : Int) * (KC : Int) = (LC : Int) := by rw [hLC]; push_cast; rfl
            have hLC81 : LC ≤ 81 := by rw [hLC]; exact Nat.mul_le_mul hk9 hk9
            have hOC := hid (fun (i j : Nat) (hi : i < KC) (hj : j < KC) => (show OC.getD (i * KC + j) 0 = if i = KC - 1 then (0 - f.getD j 0) % p else if j = i + 1 then 1 else 0 by rw [eOC]; exact grid_get _ hi hj))
            have HCF := hid hcf
            have Hpf := hid hpf; have HLC := hid hLC; have Hfk := hid hfk; have EOC := hid eOC
            clear hcf hpf hLC hfk eOC hk0
            have CAt := hid fun (i j : Nat) (W' : World) (hW : Ext W W') (hi : i < KC) (hj : j < KC) => (show Calls Try.prog 15 #[.agg #[.int .i64 (KC : Int), .int .i64 (KC : Int), .slice a6 LC c6], .int .i64 i, .int .i64 j] W' (Ret (.int .u64 (OC.getD (i * KC + j) 0)) W') from rmAt KC KC (.slice a6 LC c6) OC i j KC W' (I6W.out.ext hW) rfl (by omega) (by omega) (by omega) (by rw [OL.out, HLC.out]; exact at_lt hi hj))
            go_wp2_with fail
            clear o0 o1 o2
            go_loopw [25, 26, 27] (fun rv _ _ wr => ∃ i : Nat, rv = .int .i64 i ∧ i ≤ KC ∧ Ext W wr) (fun rv _ _ _ => KC - (intOf rv).toNat)
            case atStart => exact ⟨0, rfl, Nat.zero_le _, Ext.refl _⟩
            case round =>
              obtain ⟨i, rfl, hi, hwi⟩ := hrel
              by_cases hlt : i < KC
              · go_wp2_with fail
                go_loopw [26, 27] (fun kv _ wr => ∃ j : Nat, kv = .int .i64 j ∧ j ≤ KC ∧ Ext W wr) (fun kv _ _ => KC - (intOf kv).toNat)
                case atStart => exact ⟨0, rfl, Nat.zero_le _, hwi⟩
                case round =>
                  clear hwi
                  obtain ⟨j, rfl, hj, hwj⟩ := hrel
                  rename World => wj
                  obtain ⟨o0, o1, o2⟩ := (HOW.out.ext hwj).at3
                  by_cases hlj : j < KC
                  · have CA := hid (CAt.out i j wj hwj hlt hlj)
                    have hoc := hOC.out i j hlt hlj
                    obtain ⟨y, ey⟩ : ∃ y, OC.getD (i * KC + j) 0 = y := ⟨_, rfl⟩
                    rw [ey] at CA hoc
                    have cj := (hwj.cells _ _ hbf).trans (HCF.out j (by omega))
                    have hfr := Hpf.out.rng.getD hp2.1 j
                    obtain ⟨x, ex⟩ : ∃ x, f.getD j 0 = x := ⟨_, rfl⟩
                    rw [ex] at cj hoc hfr
                    have hjf : j < f.length := by omega
                    clear ey ex
                    by_cases h1 : i = KC - 1
                    · rw [if_pos h1] at hoc
                      have CSb := hid fun (W' : World) => rSub p 0 x y W' hrp (by omega) (by omega) hfr.1 hfr.2 hoc.symm
                      have hji : ((j : Int) == (i : Int) + 1) = false := by rw [beq_eq_false_iff_ne]; omega
                      have hik : ((i : Int) == (KC : Int) - 1) = true := by rw [beq_iff_eq]; omega
                      clear hoc h1
                      go_wp2_with fail
                      refine (CSb.out _).mono ?_
                      rintro _ _ ⟨rfl, rfl⟩
                      go_wp2_with fail
                      refine CA.out.mono ?_
                      rintro _ wk ⟨rfl, xk⟩
                      go_wp2_with fail
                      go_roundw
                      case rel => exact ⟨j + 1, by go_num, by omega, hwj.trans xk⟩
                      case measure => simp [intOf]; omega
                    · rw [if_neg h1] at hoc
                      have hik : ((i : Int) == (KC : Int) - 1) = false := by rw [beq_eq_false_iff_ne]; omega
                      by_cases h2 : j = i + 1
                      · rw [if_pos h2] at hoc
                        have hji : ((j : Int) == (i : Int) + 1) = true := by rw [beq_iff_eq]; omega
                        subst hoc
                        clear h1 h2
                        go_wp2_with fail
                        refine CA.out.mono ?_
                        rintro _ wk ⟨rfl, xk⟩
                        go_wp2_with fail
                        go_roundw
                        case rel => exact ⟨j + 1, by go_num, by omega, hwj.trans xk⟩
                        case measure => simp [intOf]; omega
                      · rw [if_neg h2] at hoc
                        have hji : ((j : Int) == (i : Int) + 1) = false := by rw [beq_eq_false_iff_ne]; omega
                        subst hoc
                        clear h1 h2
                        go_wp2_with fail
                        refine CA.out.mono ?_
                        rintro _ wk ⟨rfl, xk⟩
                        go_wp2_with fail
                        go_roundw
                        case rel => exact ⟨j + 1, by go_num, by omega, hwj.trans xk⟩
                        case measure => simp [intOf]; omega
                  · obtain rfl : KC = j := by omega
                    go_wp2_with fail
                    go_roundw
                    case rel => exact ⟨i + 1, by go_num, by omega, hwj⟩
                    case measure => simp [intOf]; omega
              · obtain rfl : KC = i := by omega
                go_wp2_with fail
                go_meet
                exact hwi
        case rest =>
          clear o0 o1 o2
          rename World => W2
          have hx2 : Ext W W2 := hcut
          have HA2 := hid (HAW.out.ext hx2)
          have HO2 := hid (HOW.out.ext hx2)
          have HV2 := hid (HVW.out.ext hx2)
          have HU2 := hid (HUW.out.ext hx2)
          have HF2 := hid (HFW.out.ext hx2)
          have I62 := hid (I6W.out.ext hx2)
          have I52 := hid (I5W.out.ext hx2)
          have X2 := hid (XW.out.trans hx2)
          obtain ⟨ha2_0, ha2_1, ha2_2⟩ := HA2.out.at3
          go_wp2_with fail
          refine (RM.out _ (X2.out.trans (Ext.refl _))).mono ?_
          rintro _ wm ⟨zm, rfl, im, xwm⟩
          clear ha2_0 ha2_1 ha2_2
          have IM := hid im
          obtain ⟨am, cm, rfl, -, -, -⟩ := im
          go_wp2_with fail
          refine (CSh.out _ _ _ (I52.out.ext xwm) IM.out).mono ?_
          rintro _ ws1 ⟨rfl, xws1⟩
          obtain ⟨ha2_0, ha2_1, ha2_2⟩ := (HA2.out.ext (xwm.trans xws1)).at3
          go_wp2_with fail
          refine (CKs.out _ (X2.out.trans (xwm.trans xws1))).mono ?_
          rintro _ ws2 ⟨rfl, xws2⟩
          clear ha2_0 ha2_1 ha2_2
          go_wp2_with fail
          refine (CSf.out _ _ _ (HF2.out.ext (xwm.trans (xws1.trans xws2))) (I52.out.ext (xwm.trans (xws1.trans xws2)))).mono ?_
          rintro _ ws3 ⟨rfl, xws3⟩
          go_wp2_with fail
          go_ret
          exact ⟨ret_bool (by simp), (X2.out.trans (xwm.trans (xws1.trans (xws2.trans xws3))))⟩
    · go_enter Try.func3, Try.ntmps3
      have z1 := (Ext.refl w).alloc (.cells #[.int .i64 (n : Int), .int .i64 (n : Int), .slice a xs.length cap] 25)
      go_wp2_with fail
      refine (awake09 _).mono ?_
      rintro _ w1 ⟨rfl, xw1⟩
      obtain ⟨ha_0, ha_1, ha_2⟩ := (HA.out.ext xw1).at3
      go_wp2_with fail
      refine (C1.out _).mono ?_
      rintro _ _ ⟨rfl, rfl⟩
      obtain ⟨ha_0, ha_1, ha_2⟩ := (HA.out.ext xw1).at3
      go_wp2_with fail
      refine (CP.out _ (z1.trans xw1)).mono ?_
      rintro _ w2 ⟨rfl, xw2⟩
      clear ha_0 ha_1 ha_2
      obtain ⟨ha_0, ha_1, ha_2⟩ := (HA.out.ext (xw1.trans xw2)).at3
      go_wp2_with fail
      refine (CD.out _ (z1.trans (xw1.trans xw2))).mono ?_
      rintro _ w3 ⟨rfl, xw3⟩
      clear ha_0 ha_1 ha_2
      obtain ⟨ha_0, ha_1, ha_2⟩ := (HA.out.ext (xw1.trans (xw2.trans xw3))).at3
      go_wp2_with fail
      refine (CO.out _ (z1.trans (xw1.trans (xw2.trans xw3)))).mono ?_
      rintro _ w4 ⟨rfl, xw4⟩
      clear ha_0 ha_1 ha_2
      obtain ⟨ha_0, ha_1, ha_2⟩ := (HA.out.ext (xw1.trans (xw2.trans (xw3.trans xw4)))).at3
      go_wp2_with fail
      refine (CM.out _ (z1.trans (xw1.trans (xw2.trans (xw3.trans xw4))))).mono ?_
      rintro _ w5 ⟨z5, rfl, i5, xw5⟩
      clear ha_0 ha_1 ha_2
      have I5 := hid i5
      obtain ⟨a5, c5, rfl, -, -, -⟩ := i5
      go_wp2_with fail
      refine (CC.out _ (HF.out.ext (z1.trans (xw1.trans (xw2.trans (xw3.trans (xw4.trans xw5))))))).mono ?_
      rintro _ w6 ⟨z6, rfl, i6, xw6⟩
      have I6 := hid i6
      obtain ⟨a6, c6, rfl, -, -, -⟩ := i6
      rw [OL.out]
      rw [OL.out] at I6
      have z8 := (Ext.refl w6).alloc (.cells #[.int .i64 (KC : Int), .int .i64 (KC : Int), .slice a6 LC c6] 25)
      have HO := hid (Blk.new w6 25 #[.int .i64 (KC : Int), .int .i64 (KC : Int), .slice a6 LC c6])
      obtain ⟨ha_0, ha_1, ha_2⟩ := (HA.out.ext (xw1.trans (xw2.trans (xw3.trans (xw4.trans (xw5.trans (xw6.trans z8))))))).at3
      go_wp2_with fail
      refine (CR5.out _ (z1.trans (xw1.trans (xw2.trans (xw3.trans (xw4.trans (xw5.trans (xw6.trans z8)))))))).mono ?_
      rintro _ w7 ⟨rfl, xw7⟩
      clear ha_0 ha_1 ha_2
      obtain ⟨ha_0, ha_1, ha_2⟩ := (HA.out.ext (xw1.trans (xw2.trans (xw3.trans (xw4.trans (xw5.trans (xw6.trans (z8.trans xw7)))))))).at3
      obtain ⟨ho_0, ho_1, ho_2⟩ := (HO.out.ext xw7).at3
      go_wp2_with fail
      refine (CHs.out _ (z1.trans (xw1.trans (xw2.trans (xw3.trans (xw4.trans (xw5.trans (xw6.trans (z8.trans xw7))))))))).mono ?_
      rintro _ _ ⟨rfl, rfl⟩
      go_wp2_with fail
      refine (CR3.out _ (HF.out.ext (z1.trans (xw1.trans (xw2.trans (xw3.trans (xw4.trans (xw5.trans (xw6.trans (z8.trans xw7)))))))))).mono ?_
      rintro _ _ ⟨rfl, rfl⟩
      go_upto_region 13 with fail
      have XW := hid ((z1.trans (xw1.trans (xw2.trans (xw3.trans (xw4.trans (xw5.trans (xw6.trans (z8.trans xw7)))))))))
      obtain ⟨W, eW⟩ : ∃ W, w7 = W := ⟨_, rfl⟩
      have HAW := hid (HA.out.ext (xw1.trans (xw2.trans (xw3.trans (xw4.trans (xw5.trans (xw6.trans (z8.trans xw7))))))))
      have HOW := hid (HO.out.ext xw7)
      have HVW := hid (HV.out.ext (z1.trans (xw1.trans (xw2.trans (xw3.trans (xw4.trans (xw5.trans (xw6.trans (z8.trans xw7)))))))))
      have HUW := hid (HU.out.ext (z1.trans (xw1.trans (xw2.trans (xw3.trans (xw4.trans (xw5.trans (xw6.trans (z8.trans xw7)))))))))
      have HFW := hid (HF.out.ext (z1.trans (xw1.trans (xw2.trans (xw3.trans (xw4.trans (xw5.trans (xw6.trans (z8.trans xw7)))))))))
      have I6W := hid (I6.out.ext (z8.trans xw7))
      have I5W := hid (I5.out.ext (xw6.trans (z8.trans xw7)))
      rw [eW] at XW HAW HOW HVW HUW HFW I6W I5W
      rw [eW]
      clear eW
      go_cut [135] from 120 to 134 (fun c w' => c = .bool (!CB) ∧ W = w')
      case first =>
        have hfw := HFW.out
        obtain ⟨af9, cf9, ef9, hf1, hf2, hf3⟩ := hfw
        injection ef9 with e91 _ e93
        subst e91
        subst e93
        have HF9 := hid hf3
        clear hf3
        cases CB with
        | false =>
          obtain ⟨-, -, hD⟩ := HC0.out rfl
          rcases hD with hD | hD | hD
          · subst hD
            clear hf1 hf2
            go_wp2_with fail
            go_meet
            exact ⟨rfl, rfl⟩
          · cases RT
            all_goals
              go_wp2_with fail
              go_meet
              exact ⟨congrArg Value.bool (by simp; try omega), rfl⟩
          · by_cases hD2 : f.length < 2
            · cases RT
              all_goals
                go_wp2_with fail
                go_meet
                exact ⟨congrArg Value.bool (by simp; try omega), rfl⟩
            · obtain ⟨kf, ekf⟩ : ∃ kf, f.length = kf + 1 := ⟨f.length - 1, by omega⟩
              obtain ⟨bf, of, rfl, hbf, hcf⟩ := HF9.out (by omega)
              have cf := hcf kf (by omega)
              have hlf : f.getD kf 0 = lead f := by unfold lead; rw [ekf]; rfl
              rw [hlf] at cf
              obtain ⟨y, ey⟩ : ∃ y, lead f = y := ⟨_, rfl⟩
              rw [ey] at cf hD
              have hy : (y != 1) = true := by simpa using hD
              have hki : (f.length : Int) - 1 = (kf : Int) := by omega
              have hkl : kf < f.length := by omega
              clear hcf hlf ey hD ekf
              cases RT
              all_goals
                go_wp2_with fail
                go_meet
                exact ⟨congrArg Value.bool (by simp; try omega), rfl⟩
        | true =>
          obtain ⟨-, -, rfl, hfk, hk1, hk9, hk0, -, -⟩ := HC1.out rfl
          obtain ⟨bf, of, rfl, hbf, hcf⟩ := HF9.out (by omega)
          have cf := hcf KC (by omega)
          rw [hk0] at cf
          have hki : (f.length : Int) - 1 = (KC : Int) := by omega
          have hkl : KC < f.length := by omega
          have hfl2 : ¬ f.length < 2 := by omega
          clear hcf hk0 hfk
          go_wp2_with fail
          go_meet
          exact ⟨congrArg Value.bool (by simp; try omega), rfl⟩
      case rest =>
        obtain ⟨rfl, rfl⟩ := hcut
        obtain ⟨o0, o1, o2⟩ := HOW.out.at3
        go_upto_if 135 with fail
        go_cut [24, 25, 26, 27] from 136 to 199 (fun _ _ _ _ w' => Ext W w')
        case first =>
          have hfw := HFW.out
          obtain ⟨af9, cf9, ef9, hf1, hf2, hf3⟩ := hfw
          injection ef9 with e91 _ e93
          subst e91
          subst e93
          have HF9 := hid hf3
          clear hf3
          cases CB with
          | false =>
            obtain ⟨rfl, rfl, -⟩ := HC0.out rfl
            obtain rfl : LC = 0 := OL.out.symm
            go_wp2_with fail
            go_meet
            exact Ext.refl _
          | true =>
            obtain ⟨rfl, eOC, rfl, hfk, hk1, hk9, hk0, hpf, hrp⟩ := HC1.out rfl
            have hp2 := rightB_true hrp
            obtain ⟨bf, of, rfl, hbf, hcf⟩ := HF9.out (by omega)
            have hki : (f.length : Int) - 1 = (KC : Int) := by omega
            have hLC : LC = KC * KC := by rw [← OL.out, eOC, compL_len]
            have hqi : (KC : Int) * (KC : Int) = (LC : Int) := by rw [hLC]; push_cast; rfl
            have hLC81 : LC ≤ 81 := by rw [hLC]; exact Nat.mul_le_mul hk9 hk9
            have hOC := hid (fun (i j : Nat) (hi : i < KC) (hj : j < KC) => (show OC.getD (i * KC + j) 0 = if i = KC - 1 then (0 - f.getD j 0) % p else if j = i + 1 then 1 else 0 by rw [eOC]; exact grid_get _ hi hj))
            have HCF := hid hcf
            have Hpf := hid hpf; have HLC := hid hLC; have Hfk := hid hfk; have EOC := hid eOC
            clear hcf hpf hLC hfk eOC hk0
            have CAt := hid fun (i j : Nat) (W' : World) (hW : Ext W W') (hi : i < KC) (hj : j < KC) => (show Calls Try.prog 15 #[.agg #[.int .i64 (KC : Int), .int .i64 (KC : Int), .slice a6 LC c6], .int .i64 i, .int .i64 j] W' (Ret (.int .u64 (OC.getD (i * KC + j) 0)) W') from rmAt KC KC (.slice a6 LC c6) OC i j KC W' (I6W.out.ext hW) rfl (by omega) (by omega) (by omega) (by rw [OL.out, HLC.out]; exact at_lt hi hj))
            go_wp2_with fail
            clear o0 o1 o2
            go_loopw [25, 26, 27] (fun rv _ _ wr => ∃ i : Nat, rv = .int .i64 i ∧ i ≤ KC ∧ Ext W wr) (fun rv _ _ _ => KC - (intOf rv).toNat)
            case atStart => exact ⟨0, rfl, Nat.zero_le _, Ext.refl _⟩
            case round =>
              obtain ⟨i, rfl, hi, hwi⟩ := hrel
              by_cases hlt : i < KC
              · go_wp2_with fail
                go_loopw [26, 27] (fun kv _ wr => ∃ j : Nat, kv = .int .i64 j ∧ j ≤ KC ∧ Ext W wr) (fun kv _ _ => KC - (intOf kv).toNat)
                case atStart => exact ⟨0, rfl, Nat.zero_le _, hwi⟩
                case round =>
                  clear hwi
                  obtain ⟨j, rfl, hj, hwj⟩ := hrel
                  rename World => wj
                  obtain ⟨o0, o1, o2⟩ := (HOW.out.ext hwj).at3
                  by_cases hlj : j < KC
                  · have CA := hid (CAt.out i j wj hwj hlt hlj)
                    have hoc := hOC.out i j hlt hlj
                    obtain ⟨y, ey⟩ : ∃ y, OC.getD (i * KC + j) 0 = y := ⟨_, rfl⟩
                    rw [ey] at CA hoc
                    have cj := (hwj.cells _ _ hbf).trans (HCF.out j (by omega))
                    have hfr := Hpf.out.rng.getD hp2.1 j
                    obtain ⟨x, ex⟩ : ∃ x, f.getD j 0 = x := ⟨_, rfl⟩
                    rw [ex] at cj hoc hfr
                    have hjf : j < f.length := by omega
                    clear ey ex
                    by_cases h1 : i = KC - 1
                    · rw [if_pos h1] at hoc
                      have CSb := hid fun (W' : World) => rSub p 0 x y W' hrp (by omega) (by omega) hfr.1 hfr.2 hoc.symm
                      have hji : ((j : Int) == (i : Int) + 1) = false := by rw [beq_eq_false_iff_ne]; omega
                      have hik : ((i : Int) == (KC : Int) - 1) = true := by rw [beq_iff_eq]; omega
                      clear hoc h1
                      go_wp2_with fail
                      refine (CSb.out _).mono ?_
                      rintro _ _ ⟨rfl, rfl⟩
                      go_wp2_with fail
                      refine CA.out.mono ?_
                      rintro _ wk ⟨rfl, xk⟩
                      go_wp2_with fail
                      go_roundw
                      case rel => exact ⟨j + 1, by go_num, by omega, hwj.trans xk⟩
                      case measure => simp [intOf]; omega
                    · rw [if_neg h1] at hoc
                      have hik : ((i : Int) == (KC : Int) - 1) = false := by rw [beq_eq_false_iff_ne]; omega
                      by_cases h2 : j = i + 1
                      · rw [if_pos h2] at hoc
                        have hji : ((j : Int) == (i : Int) + 1) = true := by rw [beq_iff_eq]; omega
                        subst hoc
                        clear h1 h2
                        go_wp2_with fail
                        refine CA.out.mono ?_
                        rintro _ wk ⟨rfl, xk⟩
                        go_wp2_with fail
                        go_roundw
                        case rel => exact ⟨j + 1, by go_num, by omega, hwj.trans xk⟩
                        case measure => simp [intOf]; omega
                      · rw [if_neg h2] at hoc
                        have hji : ((j : Int) == (i : Int) + 1) = false := by rw [beq_eq_false_iff_ne]; omega
                        subst hoc
                        clear h1 h2
                        go_wp2_with fail
                        refine CA.out.mono ?_
                        rintro _ wk ⟨rfl, xk⟩
                        go_wp2_with fail
                        go_roundw
                        case rel => exact ⟨j + 1, by go_num, by omega, hwj.trans xk⟩
                        case measure => simp [intOf]; omega
                  · obtain rfl : KC = j := by omega
                    go_wp2_with fail
                    go_roundw
                    case rel => exact ⟨i + 1, by go_num, by omega, hwj⟩
                    case measure => simp [intOf]; omega
              · obtain rfl : KC = i := by omega
                go_wp2_with fail
                go_meet
                exact hwi
        case rest =>
          clear o0 o1 o2
          rename World => W2
          have hx2 : Ext W W2 := hcut
          have HA2 := hid (HAW.out.ext hx2)
          have HO2 := hid (HOW.out.ext hx2)
          have HV2 := hid (HVW.out.ext hx2)
          have HU2 := hid (HUW.out.ext hx2)
          have HF2 := hid (HFW.out.ext hx2)
          have I62 := hid (I6W.out.ext hx2)
          have I52 := hid (I5W.out.ext hx2)
          have X2 := hid (XW.out.trans hx2)
          obtain ⟨ha2_0, ha2_1, ha2_2⟩ := HA2.out.at3
          go_wp2_with fail
          refine (RM.out _ (X2.out.trans (Ext.refl _))).mono ?_
          rintro _ wm ⟨zm, rfl, im, xwm⟩
          clear ha2_0 ha2_1 ha2_2
          have IM := hid im
          obtain ⟨am, cm, rfl, -, -, -⟩ := im
          go_wp2_with fail
          refine (CSh.out _ _ _ (I52.out.ext xwm) IM.out).mono ?_
          rintro _ ws1 ⟨rfl, xws1⟩
          obtain ⟨ha2_0, ha2_1, ha2_2⟩ := (HA2.out.ext (xwm.trans xws1)).at3
          go_wp2_with fail
          refine (CKs.out _ (X2.out.trans (xwm.trans xws1))).mono ?_
          rintro _ ws2 ⟨rfl, xws2⟩
          clear ha2_0 ha2_1 ha2_2
          go_wp2_with fail
          refine (CSf.out _ _ _ (HF2.out.ext (xwm.trans (xws1.trans xws2))) (I52.out.ext (xwm.trans (xws1.trans xws2)))).mono ?_
          rintro _ ws3 ⟨rfl, xws3⟩
          go_wp2_with fail
          go_ret
          exact ⟨ret_bool (by simp), (X2.out.trans (xwm.trans (xws1.trans (xws2.trans xws3))))⟩
  | true =>
    have hql : ((b.length : Int) == (n : Int)) = false := by
      rw [beq_eq_false_iff_ne]
      intro e
      rw [decide_eq_true e] at hvb
      cases hvb
    clear hvb
    rcases hmm with hmm | hmm
    · go_enter Try.func3, Try.ntmps3
      have z1 := (Ext.refl w).alloc (.cells #[.int .i64 (n : Int), .int .i64 (n : Int), .slice a xs.length cap] 25)
      go_wp2_with fail
      refine (awake09 _).mono ?_
      rintro _ w1 ⟨rfl, xw1⟩
      obtain ⟨ha_0, ha_1, ha_2⟩ := (HA.out.ext xw1).at3
      go_wp2_with fail
      refine (C1.out _).mono ?_
      rintro _ _ ⟨rfl, rfl⟩
      obtain ⟨ha_0, ha_1, ha_2⟩ := (HA.out.ext xw1).at3
      go_wp2_with fail
      refine (CP.out _ (z1.trans xw1)).mono ?_
      rintro _ w2 ⟨rfl, xw2⟩
      clear ha_0 ha_1 ha_2
      obtain ⟨ha_0, ha_1, ha_2⟩ := (HA.out.ext (xw1.trans xw2)).at3
      go_wp2_with fail
      refine (CD.out _ (z1.trans (xw1.trans xw2))).mono ?_
      rintro _ w3 ⟨rfl, xw3⟩
      clear ha_0 ha_1 ha_2
      obtain ⟨ha_0, ha_1, ha_2⟩ := (HA.out.ext (xw1.trans (xw2.trans xw3))).at3
      go_wp2_with fail
      refine (CO.out _ (z1.trans (xw1.trans (xw2.trans xw3)))).mono ?_
      rintro _ w4 ⟨rfl, xw4⟩
      clear ha_0 ha_1 ha_2
      obtain ⟨ha_0, ha_1, ha_2⟩ := (HA.out.ext (xw1.trans (xw2.trans (xw3.trans xw4)))).at3
      go_wp2_with fail
      refine (CM.out _ (z1.trans (xw1.trans (xw2.trans (xw3.trans xw4))))).mono ?_
      rintro _ w5 ⟨z5, rfl, i5, xw5⟩
      clear ha_0 ha_1 ha_2
      have I5 := hid i5
      obtain ⟨a5, c5, rfl, -, -, -⟩ := i5
      go_wp2_with fail
      refine (CC.out _ (HF.out.ext (z1.trans (xw1.trans (xw2.trans (xw3.trans (xw4.trans xw5))))))).mono ?_
      rintro _ w6 ⟨z6, rfl, i6, xw6⟩
      have I6 := hid i6
      obtain ⟨a6, c6, rfl, -, -, -⟩ := i6
      rw [OL.out]
      rw [OL.out] at I6
      have z8 := (Ext.refl w6).alloc (.cells #[.int .i64 (KC : Int), .int .i64 (KC : Int), .slice a6 LC c6] 25)
      have HO := hid (Blk.new w6 25 #[.int .i64 (KC : Int), .int .i64 (KC : Int), .slice a6 LC c6])
      obtain ⟨ha_0, ha_1, ha_2⟩ := (HA.out.ext (xw1.trans (xw2.trans (xw3.trans (xw4.trans (xw5.trans (xw6.trans z8))))))).at3
      go_wp2_with fail
      refine (CR5.out _ (z1.trans (xw1.trans (xw2.trans (xw3.trans (xw4.trans (xw5.trans (xw6.trans z8)))))))).mono ?_
      rintro _ w7 ⟨rfl, xw7⟩
      clear ha_0 ha_1 ha_2
      obtain ⟨ha_0, ha_1, ha_2⟩ := (HA.out.ext (xw1.trans (xw2.trans (xw3.trans (xw4.trans (xw5.trans (xw6.trans (z8.trans xw7)))))))).at3
      obtain ⟨ho_0, ho_1, ho_2⟩ := (HO.out.ext xw7).at3
      go_wp2_with fail
      refine (CHs.out _ (z1.trans (xw1.trans (xw2.trans (xw3.trans (xw4.trans (xw5.trans (xw6.trans (z8.trans xw7))))))))).mono ?_
      rintro _ _ ⟨rfl, rfl⟩
      go_wp2_with fail
      refine (CR3.out _ (HF.out.ext (z1.trans (xw1.trans (xw2.trans (xw3.trans (xw4.trans (xw5.trans (xw6.trans (z8.trans xw7)))))))))).mono ?_
      rintro _ _ ⟨rfl, rfl⟩
      go_upto_region 13 with fail
      have XW := hid ((z1.trans (xw1.trans (xw2.trans (xw3.trans (xw4.trans (xw5.trans (xw6.trans (z8.trans xw7)))))))))
      obtain ⟨W, eW⟩ : ∃ W, w7 = W := ⟨_, rfl⟩
      have HAW := hid (HA.out.ext (xw1.trans (xw2.trans (xw3.trans (xw4.trans (xw5.trans (xw6.trans (z8.trans xw7))))))))
      have HOW := hid (HO.out.ext xw7)
      have HVW := hid (HV.out.ext (z1.trans (xw1.trans (xw2.trans (xw3.trans (xw4.trans (xw5.trans (xw6.trans (z8.trans xw7)))))))))
      have HUW := hid (HU.out.ext (z1.trans (xw1.trans (xw2.trans (xw3.trans (xw4.trans (xw5.trans (xw6.trans (z8.trans xw7)))))))))
      have HFW := hid (HF.out.ext (z1.trans (xw1.trans (xw2.trans (xw3.trans (xw4.trans (xw5.trans (xw6.trans (z8.trans xw7)))))))))
      have I6W := hid (I6.out.ext (z8.trans xw7))
      have I5W := hid (I5.out.ext (xw6.trans (z8.trans xw7)))
      rw [eW] at XW HAW HOW HVW HUW HFW I6W I5W
      rw [eW]
      clear eW
      go_cut [135] from 120 to 134 (fun c w' => c = .bool (!CB) ∧ W = w')
      case first =>
        have hfw := HFW.out
        obtain ⟨af9, cf9, ef9, hf1, hf2, hf3⟩ := hfw
        injection ef9 with e91 _ e93
        subst e91
        subst e93
        have HF9 := hid hf3
        clear hf3
        cases CB with
        | false =>
          obtain ⟨-, -, hD⟩ := HC0.out rfl
          rcases hD with hD | hD | hD
          · subst hD
            clear hf1 hf2
            go_wp2_with fail
            go_meet
            exact ⟨rfl, rfl⟩
          · cases RT
            all_goals
              go_wp2_with fail
              go_meet
              exact ⟨congrArg Value.bool (by simp; try omega), rfl⟩
          · by_cases hD2 : f.length < 2
            · cases RT
              all_goals
                go_wp2_with fail
                go_meet
                exact ⟨congrArg Value.bool (by simp; try omega), rfl⟩
            · obtain ⟨kf, ekf⟩ : ∃ kf, f.length = kf + 1 := ⟨f.length - 1, by omega⟩
              obtain ⟨bf, of, rfl, hbf, hcf⟩ := HF9.out (by omega)
              have cf := hcf kf (by omega)
              have hlf : f.getD kf 0 = lead f := by unfold lead; rw [ekf]; rfl
              rw [hlf] at cf
              obtain ⟨y, ey⟩ : ∃ y, lead f = y := ⟨_, rfl⟩
              rw [ey] at cf hD
              have hy : (y != 1) = true := by simpa using hD
              have hki : (f.length : Int) - 1 = (kf : Int) := by omega
              have hkl : kf < f.length := by omega
              clear hcf hlf ey hD ekf
              cases RT
              all_goals
                go_wp2_with fail
                go_meet
                exact ⟨congrArg Value.bool (by simp; try omega), rfl⟩
        | true =>
          obtain ⟨-, -, rfl, hfk, hk1, hk9, hk0, -, -⟩ := HC1.out rfl
          obtain ⟨bf, of, rfl, hbf, hcf⟩ := HF9.out (by omega)
          have cf := hcf KC (by omega)
          rw [hk0] at cf
          have hki : (f.length : Int) - 1 = (KC : Int) := by omega
          have hkl : KC < f.length := by omega
          have hfl2 : ¬ f.length < 2 := by omega
          clear hcf hk0 hfk
          go_wp2_with fail
          go_meet
          exact ⟨congrArg Value.bool (by simp; try omega), rfl⟩
      case rest =>
        obtain ⟨rfl, rfl⟩ := hcut
        obtain ⟨o0, o1, o2⟩ := HOW.out.at3
        go_upto_if 135 with fail
        go_cut [24, 25, 26, 27] from 136 to 199 (fun _ _ _ _ w' => Ext W w')
        case first =>
          have hfw := HFW.out
          obtain ⟨af9, cf9, ef9, hf1, hf2, hf3⟩ := hfw
          injection ef9 with e91 _ e93
          subst e91
          subst e93
          have HF9 := hid hf3
          clear hf3
          cases CB with
          | false =>
            obtain ⟨rfl, rfl, -⟩ := HC0.out rfl
            obtain rfl : LC = 0 := OL.out.symm
            go_wp2_with fail
            go_meet
            exact Ext.refl _
          | true =>
            obtain ⟨rfl, eOC, rfl, hfk, hk1, hk9, hk0, hpf, hrp⟩ := HC1.out rfl
            have hp2 := rightB_true hrp
            obtain ⟨bf, of, rfl, hbf, hcf⟩ := HF9.out (by omega)
            have hki : (f.length : Int) - 1 = (KC : Int) := by omega
            have hLC : LC = KC * KC := by rw [← OL.out, eOC, compL_len]
            have hqi : (KC : Int) * (KC : Int) = (LC : Int) := by rw [hLC]; push_cast; rfl
            have hLC81 : LC ≤ 81 := by rw [hLC]; exact Nat.mul_le_mul hk9 hk9
            have hOC := hid (fun (i j : Nat) (hi : i < KC) (hj : j < KC) => (show OC.getD (i * KC + j) 0 = if i = KC - 1 then (0 - f.getD j 0) % p else if j = i + 1 then 1 else 0 by rw [eOC]; exact grid_get _ hi hj))
            have HCF := hid hcf
            have Hpf := hid hpf; have HLC := hid hLC; have Hfk := hid hfk; have EOC := hid eOC
            clear hcf hpf hLC hfk eOC hk0
            have CAt := hid fun (i j : Nat) (W' : World) (hW : Ext W W') (hi : i < KC) (hj : j < KC) => (show Calls Try.prog 15 #[.agg #[.int .i64 (KC : Int), .int .i64 (KC : Int), .slice a6 LC c6], .int .i64 i, .int .i64 j] W' (Ret (.int .u64 (OC.getD (i * KC + j) 0)) W') from rmAt KC KC (.slice a6 LC c6) OC i j KC W' (I6W.out.ext hW) rfl (by omega) (by omega) (by omega) (by rw [OL.out, HLC.out]; exact at_lt hi hj))
            go_wp2_with fail
            clear o0 o1 o2
            go_loopw [25, 26, 27] (fun rv _ _ wr => ∃ i : Nat, rv = .int .i64 i ∧ i ≤ KC ∧ Ext W wr) (fun rv _ _ _ => KC - (intOf rv).toNat)
            case atStart => exact ⟨0, rfl, Nat.zero_le _, Ext.refl _⟩
            case round =>
              obtain ⟨i, rfl, hi, hwi⟩ := hrel
              by_cases hlt : i < KC
              · go_wp2_with fail
                go_loopw [26, 27] (fun kv _ wr => ∃ j : Nat, kv = .int .i64 j ∧ j ≤ KC ∧ Ext W wr) (fun kv _ _ => KC - (intOf kv).toNat)
                case atStart => exact ⟨0, rfl, Nat.zero_le _, hwi⟩
                case round =>
                  clear hwi
                  obtain ⟨j, rfl, hj, hwj⟩ := hrel
                  rename World => wj
                  obtain ⟨o0, o1, o2⟩ := (HOW.out.ext hwj).at3
                  by_cases hlj : j < KC
                  · have CA := hid (CAt.out i j wj hwj hlt hlj)
                    have hoc := hOC.out i j hlt hlj
                    obtain ⟨y, ey⟩ : ∃ y, OC.getD (i * KC + j) 0 = y := ⟨_, rfl⟩
                    rw [ey] at CA hoc
                    have cj := (hwj.cells _ _ hbf).trans (HCF.out j (by omega))
                    have hfr := Hpf.out.rng.getD hp2.1 j
                    obtain ⟨x, ex⟩ : ∃ x, f.getD j 0 = x := ⟨_, rfl⟩
                    rw [ex] at cj hoc hfr
                    have hjf : j < f.length := by omega
                    clear ey ex
                    by_cases h1 : i = KC - 1
                    · rw [if_pos h1] at hoc
                      have CSb := hid fun (W' : World) => rSub p 0 x y W' hrp (by omega) (by omega) hfr.1 hfr.2 hoc.symm
                      have hji : ((j : Int) == (i : Int) + 1) = false := by rw [beq_eq_false_iff_ne]; omega
                      have hik : ((i : Int) == (KC : Int) - 1) = true := by rw [beq_iff_eq]; omega
                      clear hoc h1
                      go_wp2_with fail
                      refine (CSb.out _).mono ?_
                      rintro _ _ ⟨rfl, rfl⟩
                      go_wp2_with fail
                      refine CA.out.mono ?_
                      rintro _ wk ⟨rfl, xk⟩
                      go_wp2_with fail
                      go_roundw
                      case rel => exact ⟨j + 1, by go_num, by omega, hwj.trans xk⟩
                      case measure => simp [intOf]; omega
                    · rw [if_neg h1] at hoc
                      have hik : ((i : Int) == (KC : Int) - 1) = false := by rw [beq_eq_false_iff_ne]; omega
                      by_cases h2 : j = i + 1
                      · rw [if_pos h2] at hoc
                        have hji : ((j : Int) == (i : Int) + 1) = true := by rw [beq_iff_eq]; omega
                        subst hoc
                        clear h1 h2
                        go_wp2_with fail
                        refine CA.out.mono ?_
                        rintro _ wk ⟨rfl, xk⟩
                        go_wp2_with fail
                        go_roundw
                        case rel => exact ⟨j + 1, by go_num, by omega, hwj.trans xk⟩
                        case measure => simp [intOf]; omega
                      · rw [if_neg h2] at hoc
                        have hji : ((j : Int) == (i : Int) + 1) = false := by rw [beq_eq_false_iff_ne]; omega
                        subst hoc
                        clear h1 h2
                        go_wp2_with fail
                        refine CA.out.mono ?_
                        rintro _ wk ⟨rfl, xk⟩
                        go_wp2_with fail
                        go_roundw
                        case rel => exact ⟨j + 1, by go_num, by omega, hwj.trans xk⟩
                        case measure => simp [intOf]; omega
                  · obtain rfl : KC = j := by omega
                    go_wp2_with fail
                    go_roundw
                    case rel => exact ⟨i + 1, by go_num, by omega, hwj⟩
                    case measure => simp [intOf]; omega
              · obtain rfl : KC = i := by omega
                go_wp2_with fail
                go_meet
                exact hwi
        case rest =>
          clear o0 o1 o2
          rename World => W2
          have hx2 : Ext W W2 := hcut
          have HA2 := hid (HAW.out.ext hx2)
          have HO2 := hid (HOW.out.ext hx2)
          have HV2 := hid (HVW.out.ext hx2)
          have HU2 := hid (HUW.out.ext hx2)
          have HF2 := hid (HFW.out.ext hx2)
          have I62 := hid (I6W.out.ext hx2)
          have I52 := hid (I5W.out.ext hx2)
          have X2 := hid (XW.out.trans hx2)
          obtain ⟨ha2_0, ha2_1, ha2_2⟩ := HA2.out.at3
          go_wp2_with fail
          refine (RM.out _ (X2.out.trans (Ext.refl _))).mono ?_
          rintro _ wm ⟨zm, rfl, im, xwm⟩
          clear ha2_0 ha2_1 ha2_2
          have IM := hid im
          obtain ⟨am, cm, rfl, -, -, -⟩ := im
          go_wp2_with fail
          refine (CSh.out _ _ _ (I52.out.ext xwm) IM.out).mono ?_
          rintro _ ws1 ⟨rfl, xws1⟩
          obtain ⟨ha2_0, ha2_1, ha2_2⟩ := (HA2.out.ext (xwm.trans xws1)).at3
          go_wp2_with fail
          refine (CKs.out _ (X2.out.trans (xwm.trans xws1))).mono ?_
          rintro _ ws2 ⟨rfl, xws2⟩
          clear ha2_0 ha2_1 ha2_2
          go_wp2_with fail
          refine (CSf.out _ _ _ (HF2.out.ext (xwm.trans (xws1.trans xws2))) (I52.out.ext (xwm.trans (xws1.trans xws2)))).mono ?_
          rintro _ ws3 ⟨rfl, xws3⟩
          go_wp2_with fail
          go_ret
          exact ⟨ret_bool (by simp), (X2.out.trans (xwm.trans (xws1.trans (xws2.trans xws3))))⟩
    · go_enter Try.func3, Try.ntmps3
      have z1 := (Ext.refl w).alloc (.cells #[.int .i64 (n : Int), .int .i64 (n : Int), .slice a xs.length cap] 25)
      go_wp2_with fail
      refine (awake09 _).mono ?_
      rintro _ w1 ⟨rfl, xw1⟩
      obtain ⟨ha_0, ha_1, ha_2⟩ := (HA.out.ext xw1).at3
      go_wp2_with fail
      refine (C1.out _).mono ?_
      rintro _ _ ⟨rfl, rfl⟩
      obtain ⟨ha_0, ha_1, ha_2⟩ := (HA.out.ext xw1).at3
      go_wp2_with fail
      refine (CP.out _ (z1.trans xw1)).mono ?_
      rintro _ w2 ⟨rfl, xw2⟩
      clear ha_0 ha_1 ha_2
      obtain ⟨ha_0, ha_1, ha_2⟩ := (HA.out.ext (xw1.trans xw2)).at3
      go_wp2_with fail
      refine (CD.out _ (z1.trans (xw1.trans xw2))).mono ?_
      rintro _ w3 ⟨rfl, xw3⟩
      clear ha_0 ha_1 ha_2
      obtain ⟨ha_0, ha_1, ha_2⟩ := (HA.out.ext (xw1.trans (xw2.trans xw3))).at3
      go_wp2_with fail
      refine (CO.out _ (z1.trans (xw1.trans (xw2.trans xw3)))).mono ?_
      rintro _ w4 ⟨rfl, xw4⟩
      clear ha_0 ha_1 ha_2
      obtain ⟨ha_0, ha_1, ha_2⟩ := (HA.out.ext (xw1.trans (xw2.trans (xw3.trans xw4)))).at3
      go_wp2_with fail
      refine (CM.out _ (z1.trans (xw1.trans (xw2.trans (xw3.trans xw4))))).mono ?_
      rintro _ w5 ⟨z5, rfl, i5, xw5⟩
      clear ha_0 ha_1 ha_2
      have I5 := hid i5
      obtain ⟨a5, c5, rfl, -, -, -⟩ := i5
      go_wp2_with fail
      refine (CC.out _ (HF.out.ext (z1.trans (xw1.trans (xw2.trans (xw3.trans (xw4.trans xw5))))))).mono ?_
      rintro _ w6 ⟨z6, rfl, i6, xw6⟩
      have I6 := hid i6
      obtain ⟨a6, c6, rfl, -, -, -⟩ := i6
      rw [OL.out]
      rw [OL.out] at I6
      have z8 := (Ext.refl w6).alloc (.cells #[.int .i64 (KC : Int), .int .i64 (KC : Int), .slice a6 LC c6] 25)
      have HO := hid (Blk.new w6 25 #[.int .i64 (KC : Int), .int .i64 (KC : Int), .slice a6 LC c6])
      obtain ⟨ha_0, ha_1, ha_2⟩ := (HA.out.ext (xw1.trans (xw2.trans (xw3.trans (xw4.trans (xw5.trans (xw6.trans z8))))))).at3
      go_wp2_with fail
      refine (CR5.out _ (z1.trans (xw1.trans (xw2.trans (xw3.trans (xw4.trans (xw5.trans (xw6.trans z8)))))))).mono ?_
      rintro _ w7 ⟨rfl, xw7⟩
      clear ha_0 ha_1 ha_2
      obtain ⟨ha_0, ha_1, ha_2⟩ := (HA.out.ext (xw1.trans (xw2.trans (xw3.trans (xw4.trans (xw5.trans (xw6.trans (z8.trans xw7)))))))).at3
      obtain ⟨ho_0, ho_1, ho_2⟩ := (HO.out.ext xw7).at3
      go_wp2_with fail
      refine (CHs.out _ (z1.trans (xw1.trans (xw2.trans (xw3.trans (xw4.trans (xw5.trans (xw6.trans (z8.trans xw7))))))))).mono ?_
      rintro _ _ ⟨rfl, rfl⟩
      go_wp2_with fail
      refine (CR3.out _ (HF.out.ext (z1.trans (xw1.trans (xw2.trans (xw3.trans (xw4.trans (xw5.trans (xw6.trans (z8.trans xw7)))))))))).mono ?_
      rintro _ _ ⟨rfl, rfl⟩
      go_upto_region 13 with fail
      have XW := hid ((z1.trans (xw1.trans (xw2.trans (xw3.trans (xw4.trans (xw5.trans (xw6.trans (z8.trans xw7)))))))))
      obtain ⟨W, eW⟩ : ∃ W, w7 = W := ⟨_, rfl⟩
      have HAW := hid (HA.out.ext (xw1.trans (xw2.trans (xw3.trans (xw4.trans (xw5.trans (xw6.trans (z8.trans xw7))))))))
      have HOW := hid (HO.out.ext xw7)
      have HVW := hid (HV.out.ext (z1.trans (xw1.trans (xw2.trans (xw3.trans (xw4.trans (xw5.trans (xw6.trans (z8.trans xw7)))))))))
      have HUW := hid (HU.out.ext (z1.trans (xw1.trans (xw2.trans (xw3.trans (xw4.trans (xw5.trans (xw6.trans (z8.trans xw7)))))))))
      have HFW := hid (HF.out.ext (z1.trans (xw1.trans (xw2.trans (xw3.trans (xw4.trans (xw5.trans (xw6.trans (z8.trans xw7)))))))))
      have I6W := hid (I6.out.ext (z8.trans xw7))
      have I5W := hid (I5.out.ext (xw6.trans (z8.trans xw7)))
      rw [eW] at XW HAW HOW HVW HUW HFW I6W I5W
      rw [eW]
      clear eW
      go_cut [135] from 120 to 134 (fun c w' => c = .bool (!CB) ∧ W = w')
      case first =>
        have hfw := HFW.out
        obtain ⟨af9, cf9, ef9, hf1, hf2, hf3⟩ := hfw
        injection ef9 with e91 _ e93
        subst e91
        subst e93
        have HF9 := hid hf3
        clear hf3
        cases CB with
        | false =>
          obtain ⟨-, -, hD⟩ := HC0.out rfl
          rcases hD with hD | hD | hD
          · subst hD
            clear hf1 hf2
            go_wp2_with fail
            go_meet
            exact ⟨rfl, rfl⟩
          · cases RT
            all_goals
              go_wp2_with fail
              go_meet
              exact ⟨congrArg Value.bool (by simp; try omega), rfl⟩
          · by_cases hD2 : f.length < 2
            · cases RT
              all_goals
                go_wp2_with fail
                go_meet
                exact ⟨congrArg Value.bool (by simp; try omega), rfl⟩
            · obtain ⟨kf, ekf⟩ : ∃ kf, f.length = kf + 1 := ⟨f.length - 1, by omega⟩
              obtain ⟨bf, of, rfl, hbf, hcf⟩ := HF9.out (by omega)
              have cf := hcf kf (by omega)
              have hlf : f.getD kf 0 = lead f := by unfold lead; rw [ekf]; rfl
              rw [hlf] at cf
              obtain ⟨y, ey⟩ : ∃ y, lead f = y := ⟨_, rfl⟩
              rw [ey] at cf hD
              have hy : (y != 1) = true := by simpa using hD
              have hki : (f.length : Int) - 1 = (kf : Int) := by omega
              have hkl : kf < f.length := by omega
              clear hcf hlf ey hD ekf
              cases RT
              all_goals
                go_wp2_with fail
                go_meet
                exact ⟨congrArg Value.bool (by simp; try omega), rfl⟩
        | true =>
          obtain ⟨-, -, rfl, hfk, hk1, hk9, hk0, -, -⟩ := HC1.out rfl
          obtain ⟨bf, of, rfl, hbf, hcf⟩ := HF9.out (by omega)
          have cf := hcf KC (by omega)
          rw [hk0] at cf
          have hki : (f.length : Int) - 1 = (KC : Int) := by omega
          have hkl : KC < f.length := by omega
          have hfl2 : ¬ f.length < 2 := by omega
          clear hcf hk0 hfk
          go_wp2_with fail
          go_meet
          exact ⟨congrArg Value.bool (by simp; try omega), rfl⟩
      case rest =>
        obtain ⟨rfl, rfl⟩ := hcut
        obtain ⟨o0, o1, o2⟩ := HOW.out.at3
        go_upto_if 135 with fail
        go_cut [24, 25, 26, 27] from 136 to 199 (fun _ _ _ _ w' => Ext W w')
        case first =>
          have hfw := HFW.out
          obtain ⟨af9, cf9, ef9, hf1, hf2, hf3⟩ := hfw
          injection ef9 with e91 _ e93
          subst e91
          subst e93
          have HF9 := hid hf3
          clear hf3
          cases CB with
          | false =>
            obtain ⟨rfl, rfl, -⟩ := HC0.out rfl
            obtain rfl : LC = 0 := OL.out.symm
            go_wp2_with fail
            go_meet
            exact Ext.refl _
          | true =>
            obtain ⟨rfl, eOC, rfl, hfk, hk1, hk9, hk0, hpf, hrp⟩ := HC1.out rfl
            have hp2 := rightB_true hrp
            obtain ⟨bf, of, rfl, hbf, hcf⟩ := HF9.out (by omega)
            have hki : (f.length : Int) - 1 = (KC : Int) := by omega
            have hLC : LC = KC * KC := by rw [← OL.out, eOC, compL_len]
            have hqi : (KC : Int) * (KC : Int) = (LC : Int) := by rw [hLC]; push_cast; rfl
            have hLC81 : LC ≤ 81 := by rw [hLC]; exact Nat.mul_le_mul hk9 hk9
            have hOC := hid (fun (i j : Nat) (hi : i < KC) (hj : j < KC) => (show OC.getD (i * KC + j) 0 = if i = KC - 1 then (0 - f.getD j 0) % p else if j = i + 1 then 1 else 0 by rw [eOC]; exact grid_get _ hi hj))
            have HCF := hid hcf
            have Hpf := hid hpf; have HLC := hid hLC; have Hfk := hid hfk; have EOC := hid eOC
            clear hcf hpf hLC hfk eOC hk0
            have CAt := hid fun (i j : Nat) (W' : World) (hW : Ext W W') (hi : i < KC) (hj : j < KC) => (show Calls Try.prog 15 #[.agg #[.int .i64 (KC : Int), .int .i64 (KC : Int), .slice a6 LC c6], .int .i64 i, .int .i64 j] W' (Ret (.int .u64 (OC.getD (i * KC + j) 0)) W') from rmAt KC KC (.slice a6 LC c6) OC i j KC W' (I6W.out.ext hW) rfl (by omega) (by omega) (by omega) (by rw [OL.out, HLC.out]; exact at_lt hi hj))
            go_wp2_with fail
            clear o0 o1 o2
            go_loopw [25, 26, 27] (fun rv _ _ wr => ∃ i : Nat, rv = .int .i64 i ∧ i ≤ KC ∧ Ext W wr) (fun rv _ _ _ => KC - (intOf rv).toNat)
            case atStart => exact ⟨0, rfl, Nat.zero_le _, Ext.refl _⟩
            case round =>
              obtain ⟨i, rfl, hi, hwi⟩ := hrel
              by_cases hlt : i < KC
              · go_wp2_with fail
                go_loopw [26, 27] (fun kv _ wr => ∃ j : Nat, kv = .int .i64 j ∧ j ≤ KC ∧ Ext W wr) (fun kv _ _ => KC - (intOf kv).toNat)
                case atStart => exact ⟨0, rfl, Nat.zero_le _, hwi⟩
                case round =>
                  clear hwi
                  obtain ⟨j, rfl, hj, hwj⟩ := hrel
                  rename World => wj
                  obtain ⟨o0, o1, o2⟩ := (HOW.out.ext hwj).at3
                  by_cases hlj : j < KC
                  · have CA := hid (CAt.out i j wj hwj hlt hlj)
                    have hoc := hOC.out i j hlt hlj
                    obtain ⟨y, ey⟩ : ∃ y, OC.getD (i * KC + j) 0 = y := ⟨_, rfl⟩
                    rw [ey] at CA hoc
                    have cj := (hwj.cells _ _ hbf).trans (HCF.out j (by omega))
                    have hfr := Hpf.out.rng.getD hp2.1 j
                    obtain ⟨x, ex⟩ : ∃ x, f.getD j 0 = x := ⟨_, rfl⟩
                    rw [ex] at cj hoc hfr
                    have hjf : j < f.length := by omega
                    clear ey ex
                    by_cases h1 : i = KC - 1
                    · rw [if_pos h1] at hoc
                      have CSb := hid fun (W' : World) => rSub p 0 x y W' hrp (by omega) (by omega) hfr.1 hfr.2 hoc.symm
                      have hji : ((j : Int) == (i : Int) + 1) = false := by rw [beq_eq_false_iff_ne]; omega
                      have hik : ((i : Int) == (KC : Int) - 1) = true := by rw [beq_iff_eq]; omega
                      clear hoc h1
                      go_wp2_with fail
                      refine (CSb.out _).mono ?_
                      rintro _ _ ⟨rfl, rfl⟩
                      go_wp2_with fail
                      refine CA.out.mono ?_
                      rintro _ wk ⟨rfl, xk⟩
                      go_wp2_with fail
                      go_roundw
                      case rel => exact ⟨j + 1, by go_num, by omega, hwj.trans xk⟩
                      case measure => simp [intOf]; omega
                    · rw [if_neg h1] at hoc
                      have hik : ((i : Int) == (KC : Int) - 1) = false := by rw [beq_eq_false_iff_ne]; omega
                      by_cases h2 : j = i + 1
                      · rw [if_pos h2] at hoc
                        have hji : ((j : Int) == (i : Int) + 1) = true := by rw [beq_iff_eq]; omega
                        subst hoc
                        clear h1 h2
                        go_wp2_with fail
                        refine CA.out.mono ?_
                        rintro _ wk ⟨rfl, xk⟩
                        go_wp2_with fail
                        go_roundw
                        case rel => exact ⟨j + 1, by go_num, by omega, hwj.trans xk⟩
                        case measure => simp [intOf]; omega
                      · rw [if_neg h2] at hoc
                        have hji : ((j : Int) == (i : Int) + 1) = false := by rw [beq_eq_false_iff_ne]; omega
                        subst hoc
                        clear h1 h2
                        go_wp2_with fail
                        refine CA.out.mono ?_
                        rintro _ wk ⟨rfl, xk⟩
                        go_wp2_with fail
                        go_roundw
                        case rel => exact ⟨j + 1, by go_num, by omega, hwj.trans xk⟩
                        case measure => simp [intOf]; omega
                  · obtain rfl : KC = j := by omega
                    go_wp2_with fail
                    go_roundw
                    case rel => exact ⟨i + 1, by go_num, by omega, hwj⟩
                    case measure => simp [intOf]; omega
              · obtain rfl : KC = i := by omega
                go_wp2_with fail
                go_meet
                exact hwi
        case rest =>
          clear o0 o1 o2
          rename World => W2
          have hx2 : Ext W W2 := hcut
          have HA2 := hid (HAW.out.ext hx2)
          have HO2 := hid (HOW.out.ext hx2)
          have HV2 := hid (HVW.out.ext hx2)
          have HU2 := hid (HUW.out.ext hx2)
          have HF2 := hid (HFW.out.ext hx2)
          have I62 := hid (I6W.out.ext hx2)
          have I52 := hid (I5W.out.ext hx2)
          have X2 := hid (XW.out.trans hx2)
          obtain ⟨ha2_0, ha2_1, ha2_2⟩ := HA2.out.at3
          go_wp2_with fail
          refine (RM.out _ (X2.out.trans (Ext.refl _))).mono ?_
          rintro _ wm ⟨zm, rfl, im, xwm⟩
          clear ha2_0 ha2_1 ha2_2
          have IM := hid im
          obtain ⟨am, cm, rfl, -, -, -⟩ := im
          go_wp2_with fail
          refine (CSh.out _ _ _ (I52.out.ext xwm) IM.out).mono ?_
          rintro _ ws1 ⟨rfl, xws1⟩
          obtain ⟨ha2_0, ha2_1, ha2_2⟩ := (HA2.out.ext (xwm.trans xws1)).at3
          go_wp2_with fail
          refine (CKs.out _ (X2.out.trans (xwm.trans xws1))).mono ?_
          rintro _ ws2 ⟨rfl, xws2⟩
          clear ha2_0 ha2_1 ha2_2
          go_wp2_with fail
          refine (CSf.out _ _ _ (HF2.out.ext (xwm.trans (xws1.trans xws2))) (I52.out.ext (xwm.trans (xws1.trans xws2)))).mono ?_
          rintro _ ws3 ⟨rfl, xws3⟩
          go_wp2_with fail
          go_ret
          exact ⟨ret_bool (by simp), (X2.out.trans (xwm.trans (xws1.trans (xws2.trans xws3))))⟩
end Go.Proofs.Ythmmakkldkjnlaa.krylovRight
