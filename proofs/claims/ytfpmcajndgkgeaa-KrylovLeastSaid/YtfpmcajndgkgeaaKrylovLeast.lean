/- KrylovLeast: whatever the number, the matrix, the vector and the polynomial, the law answers true, and nothing that was there has turned. No condition. -/
import Derived.Test.YtfpmcajndgkgeaaKrylovLeastS
import Derived.Test.YtfpmcajndgkgeaaLaw9
import Derived.Test.YtfpmcajndgkgeaaBun05
import Derived.Test.YtfpmcajndgkgeaaBun12
namespace Go.Proofs.Ytfpmcajndgkgeaa.krylovLeast
open Go.ChangeShapes Go.WideShapes Go.ChangeAt Go.RowKit Go.Maps


set_option maxRecDepth 100000 in
set_option maxHeartbeats 4000000 in
theorem walk_yes (p : Int) (n : Nat) (v u vf : Value) (xs b f : List Int) (w : World) (ok : MatOk p n n xs) (hf : Fld p) (hT : takenB p = true) (hlen : xs.length ≤ 64) (hpf : Pol p f) (hfl : f.length ≤ 12) (hb : b.length = n) (hr : Rng p b) (hv : Ints .u64 w v xs) (hu : Ints .u64 w u b) (hfv : Ints .u64 w vf f) :
    Calls Try.prog 5 #[.int .u64 p, matV n n v, u, vf] w (Ret (.bool true) w) := by
  have hp2 := rightB_true ok.hp
  have C1 := hid fun (W : World) => (hT ▸ prime_any09 p W (by omega) : Calls Try.prog 25 #[.int .u64 p] W fun e w' => e = .returned (.bool true) ∧ W = w')
  have C2 := hid fun (W : World) (hW : Ext w W) => (ok.b ▸ mxRight p n n v xs W (by omega) (by omega) (hv.ext hW) ok.u64 : Calls Try.prog 39 #[.int .u64 p, matV n n v] W (Ret (.bool true) W))
  have C3 := hid fun (W : World) (hW : Ext w W) => polRight_yes p vf f W ok.hp (hfv.ext hW) hpf (by omega)
  have C5 := hid fun (W : World) (hW : Ext w W) => (hr.has ok.hp ▸ has_any p u b W (by omega) (by omega) (hu.ext hW) (hr.u64 hp2.2) : Calls Try.prog 40 #[.int .u64 p, u] W fun e w' => e = .returned (.bool true) ∧ W = w')
  obtain ⟨g, hg⟩ := OwnL.any (hf.has hp2.1) n xs b
  obtain ⟨h, hh⟩ := MinL.any (hf.has hp2.1) n xs
  have hgl := hg.len (hf.has hp2.1)
  have hhl := hh.len (hf.has hp2.1)
  have hh2 := hh.two hp2.1 ok.hn.1
  have hn := ok.hn
  have CO := hid fun (W : World) (hW : Ext w W) => krOf p n v u xs b g W ok hf (hv.ext hW) (hu.ext hW) hb hr hg
  have CM := hid fun (W : World) (hW : Ext w W) => krMin p n v xs h W ok hf (hv.ext hW) hh
  have CD := hid fun (W : World) (z y : Value) (h q : List Int) (hW : Ext w W) (hz : Ints .u64 W z h) (hh : Pol p h) (hl : h.length ≤ 100) (hy : Ints .u64 W y q) (hq : q.length = n) (hrq : Rng p q) => krDo p n z v y h xs q W ok hz hh (by omega) (hv.ext hW) hy hq hrq
  have CV := hid fun (W : World) (z y : Value) (q d : List Int) (hz : Ints .u64 W z q) (hy : Ints .u64 W y d) (hq : Pol p q) (hd : Pol p d) (hl : q.length ≤ 100 ∧ d.length ≤ 100) (hd0 : d ≠ []) (hd1 : lead d = 1) => pDiv_yes p z y q d W ok.hp hz hy hq hd (by omega) hd0 (unit_one hf hp2.1 hd1)
  -- what is left
  have K1 : pdoL p n xs g b = List.replicate n 0 := pdoL_kil.2 (hg.kil _ rfl)
  have K2 : pdoL p n xs h b = List.replicate n 0 := pdoL_kil.2 (hh.all _)
  have R1 := hid fun (qs rs : List Int) (hrs : Pol p rs) (e : pol p h = pol p qs * pol p g + pol p rs) (hl : rs.length < g.length) => (own_rest hp2.1 hg hrs e hl).1 fun v _ => hh.all v
  have R2 := hid fun (qs rs : List Int) (hrs : Pol p rs) (e : pol p f = pol p qs * pol p g + pol p rs) (hl : rs.length < g.length) => (own_vec (p := p) (n := n) (xs := xs) (b := b) (f := f)).symm.trans (own_rest hp2.1 hg hrs e hl)
  have R3 := hid fun (qs rs : List Int) (hrs : Pol p rs) (e : pol p f = pol p qs * pol p h + pol p rs) (hl : rs.length < h.length) => (min_vec (p := p) (n := n) (xs := xs) (f := f)).symm.trans (own_rest hp2.1 hh hrs e hl)
  obtain ⟨kg, eg, lg⟩ := lead_get hg.mon hg.ne
  obtain ⟨kh, eh, lh⟩ := lead_get hh.mon hh.ne
  have HG := hid hg.isp; have HH := hid hh.isp; have HGn := hid hg.ne; have HHn := hid hh.ne; have HGm := hid hg.mon; have HHm := hid hh.mon
  have LG := hid lg; have LH := hid lh; have HK1 := hid K1; have HK2 := hid K2; have HPF := hid hpf
  have Hp := hid ok.hp; have HR := hid hr; have Hb := hid hb; have HU := hid hu; have HF := hid hfv
  have t1 : decide (64 < (xs.length : Int)) = false := decide_eq_false (by omega)
  have t1' : decide (64 < xs.length) = false := decide_eq_false (by omega)
  have t2 : decide (12 < (f.length : Int)) = false := decide_eq_false (by omega)
  have t2' : decide (12 < f.length) = false := decide_eq_false (by omega)
  have t4 : ((n : Int) != (n : Int)) = false := by simp
  have lz := hid (List.length_replicate (n := n) (a := (0 : Int)))
  have rz := hid (zeros_rng hp2.1 n)
  obtain ⟨Z, eZ⟩ : ∃ Z, List.replicate n (0 : Int) = Z := ⟨_, rfl⟩
  have EZ := hid eZ
  rw [eZ] at HK1 HK2 lz rz R2 R3
  have HFL := hid hfl; have HGL := hid hgl; have HHL := hid hhl; have EG := hid eg; have EH := hid eh
  obtain ⟨ng, eng⟩ : ∃ x, g.length = x := ⟨_, rfl⟩
  obtain ⟨nh, enh⟩ : ∃ x, h.length = x := ⟨_, rfl⟩
  have ENG := hid eng; have ENH := hid enh
  rw [eng] at eg hgl; rw [enh] at eh hhl hh2
  have wh : IntKind.i64.wrap ((nh : Int) - 1) = (kh : Int) := by rw [IntKind.wrap_i64]; omega
  have wg : IntKind.i64.wrap ((ng : Int) - 1) = (kg : Int) := by rw [IntKind.wrap_i64]; omega
  have wn : IntKind.i64.wrap ((n : Int) + 1) = (n : Int) + 1 := by rw [IntKind.wrap_i64]; omega
  have th1 : decide ((nh : Int) < 2) = false := decide_eq_false (by omega)
  have th1' : decide (nh < 2) = false := decide_eq_false (by omega)
  have th2 : decide ((n : Int) + 1 < (nh : Int)) = false := decide_eq_false (by omega)
  have th2' : decide (n + 1 < nh) = false := decide_eq_false (by omega)
  have tg1 : decide ((ng : Int) < 1) = false := decide_eq_false (by omega)
  have tg1' : decide (ng < 1) = false := decide_eq_false (by omega)
  have ih1 : (0 : Int) ≤ (kh : Int) := by omega
  have ih2 : (kh : Int) < (nh : Int) := by omega
  have ih3 : kh < nh := by omega
  have ig1 : (0 : Int) ≤ (kg : Int) := by omega
  have ig2 : (kg : Int) < (ng : Int) := by omega
  have ig3 : kg < ng := by omega
  obtain ⟨a, cap, rfl, k1, k2, k3⟩ := hv
  obtain ⟨af, cf, rfl, -, -, -⟩ := hfv
  obtain ⟨a', cap', rfl, KB⟩ := partsV hu hb
  clear k3 hu hb hr hpf hlen ok hf hT hg hh K1 K2 eZ eg eh eng enh KB hfl lg lh hgl hhl hh2
  have HA := hid (Blk.new w 25 #[.int .i64 (n : Int), .int .i64 (n : Int), .slice a xs.length cap])
  have hW0 := hid ((Ext.refl w).alloc (.cells #[.int .i64 (n : Int), .int .i64 (n : Int), .slice a xs.length cap] 25))
  unfold matV at C2 CD CO CM
  unfold matV
  unfold RetE at CD CO CM
  unfold RetDiv at CV
  go_enter Try.func5, Try.ntmps5
  go_wp2_with fail
  refine (awake09 _).mono ?_
  rintro _ w1 ⟨rfl, xw1⟩
  obtain ⟨ha_0, ha_1, ha_2⟩ := (HA.out.ext xw1).at3
  go_wp2_with fail
  refine (C1.out _).mono ?_
  rintro _ _ ⟨rfl, rfl⟩
  go_wp2_with fail
  refine (C2.out _ (hW0.out.trans xw1)).mono ?_
  rintro _ w2 ⟨rfl, xw2⟩
  clear ha_0 ha_1 ha_2
  obtain ⟨ha_0, ha_1, ha_2⟩ := (HA.out.ext (xw1.trans xw2)).at3
  go_wp2_with fail
  refine (C5.out _ (hW0.out.trans (xw1.trans xw2))).mono ?_
  rintro _ _ ⟨rfl, rfl⟩
  go_wp2_with fail
  refine (C3.out _ (hW0.out.trans (xw1.trans xw2))).mono ?_
  rintro _ _ ⟨rfl, rfl⟩
  clear C1 C2 C3 C5
  go_wp2_with fail
  refine (CO.out _ (hW0.out.trans (xw1.trans xw2))).mono ?_
  rintro _ w3 ⟨vg, rfl, ig, xw3⟩
  have IG := hid ig
  obtain ⟨ag, cg, rfl, KG⟩ := partsV ig ENG.out
  have KG := hid KG
  clear ig
  clear ha_0 ha_1 ha_2
  obtain ⟨ha_0, ha_1, ha_2⟩ := (HA.out.ext (xw1.trans (xw2.trans xw3))).at3
  go_wp2_with fail
  refine (CM.out _ (hW0.out.trans (xw1.trans (xw2.trans xw3)))).mono ?_
  rintro _ w4 ⟨vh, rfl, ih, xw4⟩
  clear ha_0 ha_1 ha_2
  have IH := hid ih
  obtain ⟨ah, ch, rfl, KH⟩ := partsV ih ENH.out
  have KH := hid KH
  clear ih CO CM
  obtain ⟨bg, og, rfl, hbg, kcg⟩ := (KG.out.ext xw4) (by omega)
  obtain ⟨bh, oh, rfl, hbh, kch⟩ := KH.out (by omega)
  have cg1 := kcg kg ig3
  rw [LG.out] at cg1
  have ch1 := kch kh ih3
  rw [LH.out] at ch1
  clear kcg kch
  have hmk := make_ints (P := Try.prog) 23 22 .u64 8 (by omega) (by kernel_rfl) (by kernel_rfl) n n (Nat.le_refl _) (by omega)
  have z6 := (Ext.refl w4).alloc (.cells (madeCells #[Value.int .u64 0] n) 22)
  have IZ := hid (show Ints .u64 (w4.alloc (.cells (madeCells #[Value.int .u64 0] n) 22)) (.slice (some ⟨w4.heap.size, 0, none⟩) n n) Z from EZ.out ▸ (WRow.made (w := w4) (t := 22) (n := n) rfl).ints' List.length_replicate (Nat.le_refl n) (by omega))
  obtain ⟨hb_0, hb_1, hb_2⟩ := (HA.out.ext (xw1.trans (xw2.trans (xw3.trans xw4)))).at3
  obtain ⟨ha_0, ha_1, ha_2⟩ := (HA.out.ext (xw1.trans (xw2.trans (xw3.trans (xw4.trans z6))))).at3
  go_wp2_with fail
  refine (CD.out _ _ _ _ _ (hW0.out.trans (xw1.trans (xw2.trans (xw3.trans (xw4.trans z6))))) (IG.out.ext (xw4.trans z6)) HG.out (by have := HGL.out; omega) (HU.out.ext (hW0.out.trans (xw1.trans (xw2.trans (xw3.trans (xw4.trans z6)))))) Hb.out HR.out).mono ?_
  rintro _ w5 ⟨vx5, rfl, ix5, xw5⟩
  clear ha_0 ha_1 ha_2
  rw [HK1.out] at ix5
  have I5 := hid ix5
  obtain ⟨ax5, kx5, rfl, -⟩ := partsV ix5 lz.out
  clear ix5
  clear hb_0 hb_1 hb_2 cg1 ch1 hmk
  obtain ⟨ha_0, ha_1, ha_2⟩ := (HA.out.ext (xw1.trans (xw2.trans (xw3.trans (xw4.trans (z6.trans xw5)))))).at3
  go_wp2_with fail
  refine (CD.out _ _ _ _ _ (hW0.out.trans (xw1.trans (xw2.trans (xw3.trans (xw4.trans (z6.trans xw5)))))) (IH.out.ext (z6.trans xw5)) HH.out (by have := HHL.out; omega) (HU.out.ext (hW0.out.trans (xw1.trans (xw2.trans (xw3.trans (xw4.trans (z6.trans xw5))))))) Hb.out HR.out).mono ?_
  rintro _ w6 ⟨vx6, rfl, ix6, xw6⟩
  clear ha_0 ha_1 ha_2
  rw [HK2.out] at ix6
  have I6 := hid ix6
  obtain ⟨ax6, kx6, rfl, -⟩ := partsV ix6 lz.out
  clear ix6
  have e1g := ENG.out
  clear e1g
  go_wp2_with fail
  refine (CV.out _ _ _ _ _ (IH.out.ext (z6.trans (xw5.trans xw6))) (IG.out.ext (xw4.trans (z6.trans (xw5.trans xw6)))) HH.out HG.out ⟨by have := HHL.out; omega, by have := HGL.out; omega⟩ HGn.out HGm.out).mono ?_
  rintro _ w7 ⟨va, ua, qa, ra, rfl, -, ia, -, pa, ea, la, -, xw7, -, -⟩
  have hr1 := R1.out _ _ pa ea la
  subst hr1
  obtain ⟨aa, ka, rfl, -⟩ := partsV ia (n := 0) rfl
  clear ia pa ea la
  go_wp2_with fail
  refine (same_yes _ _ _ _ (I5.out.ext (xw6.trans xw7)) (IZ.out.ext (xw5.trans (xw6.trans xw7)))).mono ?_
  rintro _ w8 ⟨rfl, xw8⟩
  go_wp2_with fail
  refine (same_yes _ _ _ _ (I6.out.ext (xw7.trans xw8)) (IZ.out.ext (xw5.trans (xw6.trans (xw7.trans xw8))))).mono ?_
  rintro _ w9 ⟨rfl, xw9⟩
  obtain ⟨DF, eDF⟩ : ∃ l, pdoL p n xs f b = l := ⟨_, rfl⟩
  have lDF := hid (show DF.length = n by rw [← eDF]; exact pdoL_len _ _)
  rw [eDF] at R2
  have EDF := hid eDF
  clear eDF
  obtain ⟨ha_0, ha_1, ha_2⟩ := (HA.out.ext (xw1.trans (xw2.trans (xw3.trans (xw4.trans (z6.trans (xw5.trans (xw6.trans (xw7.trans (xw8.trans xw9)))))))))).at3
  go_wp2_with fail
  refine (CD.out _ _ _ _ _ (hW0.out.trans (xw1.trans (xw2.trans (xw3.trans (xw4.trans (z6.trans (xw5.trans (xw6.trans (xw7.trans (xw8.trans xw9)))))))))) (HF.out.ext (hW0.out.trans (xw1.trans (xw2.trans (xw3.trans (xw4.trans (z6.trans (xw5.trans (xw6.trans (xw7.trans (xw8.trans xw9))))))))))) HPF.out (by have := HFL.out; omega) (HU.out.ext (hW0.out.trans (xw1.trans (xw2.trans (xw3.trans (xw4.trans (z6.trans (xw5.trans (xw6.trans (xw7.trans (xw8.trans xw9))))))))))) Hb.out HR.out).mono ?_
  rintro _ w10 ⟨vx10, rfl, ix10, xw10⟩
  clear ha_0 ha_1 ha_2
  rw [EDF.out] at ix10
  have I10 := hid ix10
  obtain ⟨ax10, kx10, rfl, -⟩ := partsV ix10 lDF.out
  clear ix10
  go_wp2_with fail
  refine (CV.out _ _ _ _ _ (HF.out.ext (hW0.out.trans (xw1.trans (xw2.trans (xw3.trans (xw4.trans (z6.trans (xw5.trans (xw6.trans (xw7.trans (xw8.trans (xw9.trans xw10)))))))))))) (IG.out.ext (xw4.trans (z6.trans (xw5.trans (xw6.trans (xw7.trans (xw8.trans (xw9.trans xw10)))))))) HPF.out HG.out ⟨by have := HFL.out; omega, by have := HGL.out; omega⟩ HGn.out HGm.out).mono ?_
  rintro _ w11 ⟨vb, ub, qb, rb, rfl, -, ib, -, pb, eb, lb, -, xw11, -, -⟩
  have hr2 := R2.out _ _ pb eb lb
  obtain ⟨nb, enb⟩ : ∃ x, rb.length = x := ⟨_, rfl⟩
  obtain ⟨D, eD⟩ : ∃ D, decide (DF = Z) = D := ⟨_, rfl⟩
  have tD : ((nb : Int) == 0) = D := by
    rw [← eD, ← enb]
    by_cases e : DF = Z
    · rw [decide_eq_true e, hr2.1 e]; rfl
    · rw [decide_eq_false e, beq_eq_false_iff_ne]
      intro h0
      exact e (hr2.2 (List.eq_nil_of_length_eq_zero (by omega)))
  have tDD : (D != D) = false := by simp
  obtain ⟨ab, kb, rfl, -⟩ := partsV ib enb
  have CS := hid fun (W : World) (z y : Value) (hz : Ints .u64 W z DF) (hy : Ints .u64 W y Z) => (eD ▸ same_any z y DF Z W hz hy : Calls Try.prog 20 #[z, y] W (Ret (.bool D) W))
  clear hr2 ib pb eb lb enb eD
  go_wp2_with fail
  refine (CS.out _ _ _ (I10.out.ext xw11) (IZ.out.ext (xw5.trans (xw6.trans (xw7.trans (xw8.trans (xw9.trans (xw10.trans xw11)))))))).mono ?_
  rintro _ w12 ⟨rfl, xw12⟩
  obtain ⟨ha_0, ha_1, ha_2⟩ := (HA.out.ext (xw1.trans (xw2.trans (xw3.trans (xw4.trans (z6.trans (xw5.trans (xw6.trans (xw7.trans (xw8.trans (xw9.trans (xw10.trans (xw11.trans xw12))))))))))))).at3
  go_wp2_with fail
  clear ha_0 ha_1 ha_2
  go_loopw [26, 27] (fun av iv wr => ∃ (k : Nat) (Ab : Bool), av = .bool Ab ∧ iv = .int .i64 k ∧ k ≤ n ∧ Hid (Ab = true ↔ ∀ j, j < k → pdoL p n xs f (unitL n j) = Z) ∧ Hid (Ext w12 wr)) (fun _ iv _ => n - (intOf iv).toNat)
  case atStart => exact ⟨0, true, rfl, rfl, Nat.zero_le _, hid ⟨fun _ j hj => absurd hj (Nat.not_lt_zero _), fun _ => rfl⟩, hid (Ext.refl _)⟩
  case round =>
    obtain ⟨k, Ab, rfl, rfl, hk, hA, hxk⟩ := hrel
    rename World => wr
    by_cases hlt : k < n
    · have hg := made_get hlt
      have hk1 : (k : Int) < (n : Int) := by omega
      obtain ⟨hb_0, hb_1, hb_2⟩ := (HA.out.ext (xw1.trans (xw2.trans (xw3.trans (xw4.trans (z6.trans (xw5.trans (xw6.trans (xw7.trans (xw8.trans (xw9.trans (xw10.trans (xw11.trans (xw12.trans hxk.out)))))))))))))).at3
      have z16 := (Ext.refl wr).alloc (.cells ((madeCells #[Value.int .u64 0] n).setIfInBounds k (.int .u64 1)) 22)
      have IE := hid (show Ints .u64 (wr.alloc (.cells ((madeCells #[Value.int .u64 0] n).setIfInBounds k (.int .u64 1)) 22)) (.slice (some ⟨wr.heap.size, 0, none⟩) n n) (unitL n k) from unit_set hlt ▸ (WRow.made1 (w := wr) (t := 22) (n := n) (i := k) rfl).ints' (by rw [List.length_set, List.length_replicate]) (Nat.le_refl n) (by omega))
      have hmk := make_ints (P := Try.prog) 23 22 .u64 8 (by omega) (by kernel_rfl) (by kernel_rfl) n n (Nat.le_refl _) (by omega)
      obtain ⟨DU, eDU⟩ : ∃ l, pdoL p n xs f (unitL n k) = l := ⟨_, rfl⟩
      have lDU := hid (show DU.length = n by rw [← eDU]; exact pdoL_len _ _)
      have EDU := hid eDU
      clear eDU
      obtain ⟨ha_0, ha_1, ha_2⟩ := (HA.out.ext (xw1.trans (xw2.trans (xw3.trans (xw4.trans (z6.trans (xw5.trans (xw6.trans (xw7.trans (xw8.trans (xw9.trans (xw10.trans (xw11.trans (xw12.trans (hxk.out.trans z16))))))))))))))).at3
      cases Ab with
      | false =>
        go_wp2_with fail
        refine (CD.out _ _ _ _ _ (hW0.out.trans (xw1.trans (xw2.trans (xw3.trans (xw4.trans (z6.trans (xw5.trans (xw6.trans (xw7.trans (xw8.trans (xw9.trans (xw10.trans (xw11.trans (xw12.trans (hxk.out.trans z16))))))))))))))) (HF.out.ext (hW0.out.trans (xw1.trans (xw2.trans (xw3.trans (xw4.trans (z6.trans (xw5.trans (xw6.trans (xw7.trans (xw8.trans (xw9.trans (xw10.trans (xw11.trans (xw12.trans (hxk.out.trans z16)))))))))))))))) HPF.out (by have := HFL.out; omega) IE.out (unit_len n k) (unit_rng (rightB_true Hp.out).1 n k)).mono ?_
        rintro _ wd ⟨vd, rfl, id, xwd⟩
        rw [EDU.out] at id
        have ID := hid id
        obtain ⟨ad, kd, rfl, -⟩ := partsV id lDU.out
        clear id hb_0 hb_1 hb_2 hmk ha_0 ha_1 ha_2
        go_wp2_with fail
        go_roundw
        case rel => exact ⟨k + 1, false, rfl, by go_num, by omega, hid ⟨fun h => Bool.noConfusion h, fun h => hA.out.2 fun j hj => h j (by omega)⟩, hid (hxk.out.trans (z16.trans xwd))⟩
        case measure => simp [intOf]; omega
      | true =>
        go_wp2_with fail
        refine (CD.out _ _ _ _ _ (hW0.out.trans (xw1.trans (xw2.trans (xw3.trans (xw4.trans (z6.trans (xw5.trans (xw6.trans (xw7.trans (xw8.trans (xw9.trans (xw10.trans (xw11.trans (xw12.trans (hxk.out.trans z16))))))))))))))) (HF.out.ext (hW0.out.trans (xw1.trans (xw2.trans (xw3.trans (xw4.trans (z6.trans (xw5.trans (xw6.trans (xw7.trans (xw8.trans (xw9.trans (xw10.trans (xw11.trans (xw12.trans (hxk.out.trans z16)))))))))))))))) HPF.out (by have := HFL.out; omega) IE.out (unit_len n k) (unit_rng (rightB_true Hp.out).1 n k)).mono ?_
        rintro _ wd ⟨vd, rfl, id, xwd⟩
        rw [EDU.out] at id
        have ID := hid id
        obtain ⟨ad, kd, rfl, -⟩ := partsV id lDU.out
        clear id hb_0 hb_1 hb_2 hmk ha_0 ha_1 ha_2
        obtain ⟨D2, eD2⟩ : ∃ D, decide (DU = Z) = D := ⟨_, rfl⟩
        have CS2 := hid (eD2 ▸ same_any _ _ DU Z _ ID.out (IZ.out.ext (xw5.trans (xw6.trans (xw7.trans (xw8.trans (xw9.trans (xw10.trans (xw11.trans (xw12.trans (hxk.out.trans (z16.trans xwd))))))))))) : Calls Try.prog 20 #[.slice ad n kd, .slice (some ⟨w4.heap.size, 0, none⟩) n n] wd (Ret (.bool D2) wd))
        have ED2 := hid eD2
        clear eD2
        go_wp2_with fail
        refine CS2.out.mono ?_
        rintro _ we ⟨rfl, xwe⟩
        go_wp2_with fail
        go_roundw
        case rel =>
          refine ⟨k + 1, D2, rfl, by go_num, by omega, hid ?_, hid (hxk.out.trans (z16.trans (xwd.trans xwe)))⟩
          rw [← ED2.out, decide_eq_true_eq]
          constructor
          · intro h j hj
            by_cases e : j = k
            · rw [e, EDU.out]; exact h
            · exact hA.out.1 (by simp) j (by omega)
          · intro h
            rw [← EDU.out]; exact h k (by omega)
        case measure => simp [intOf]; omega
    · obtain rfl : n = k := by omega
      obtain ⟨ha_0, ha_1, ha_2⟩ := (HA.out.ext (xw1.trans (xw2.trans (xw3.trans (xw4.trans (z6.trans (xw5.trans (xw6.trans (xw7.trans (xw8.trans (xw9.trans (xw10.trans (xw11.trans (xw12.trans hxk.out)))))))))))))).at3
      go_wp2_with fail
      refine (CV.out _ _ _ _ _ (HF.out.ext (hW0.out.trans (xw1.trans (xw2.trans (xw3.trans (xw4.trans (z6.trans (xw5.trans (xw6.trans (xw7.trans (xw8.trans (xw9.trans (xw10.trans (xw11.trans (xw12.trans hxk.out))))))))))))))) (IH.out.ext (z6.trans (xw5.trans (xw6.trans (xw7.trans (xw8.trans (xw9.trans (xw10.trans (xw11.trans (xw12.trans hxk.out)))))))))) HPF.out HH.out ⟨by have := HFL.out; omega, by have := HHL.out; omega⟩ HHn.out HHm.out).mono ?_
      rintro _ w14 ⟨vc, uc, qc, rc, rfl, -, ic, -, pc, ec, lc, -, xw14, -, -⟩
      have hr3 := R3.out _ _ pc ec lc
      obtain ⟨nc, enc⟩ : ∃ x, rc.length = x := ⟨_, rfl⟩
      have tA : ((nc : Int) == 0) = Ab := by
        rw [← enc]
        cases Ab with
        | true => rw [hr3.1 (hA.out.1 rfl)]; rfl
        | false =>
          rw [beq_eq_false_iff_ne]
          intro h0
          exact Bool.noConfusion (hA.out.2 (hr3.2 (List.eq_nil_of_length_eq_zero (by omega))))
      have tAA : (Ab == Ab) = true := by simp
      obtain ⟨ac, kc, rfl, -⟩ := partsV ic enc
      clear hr3 ic pc ec lc enc
      go_wp2_with fail
      go_ret
      exact ⟨ret_bool (by simp), (hW0.out.trans (xw1.trans (xw2.trans (xw3.trans (xw4.trans (z6.trans (xw5.trans (xw6.trans (xw7.trans (xw8.trans (xw9.trans (xw10.trans (xw11.trans (xw12.trans (hxk.out.trans xw14)))))))))))))))⟩

/-- the law answers true -/
theorem walk (p r c : Int) (v : Value) (xs : List Int) (u : Value) (b : List Int) (vf : Value) (f : List Int) (w : World) (hp : (Lit.int .u64 p).wf = true) (_ : (Lit.int .i64 r).wf = true) (_ : (Lit.int .i64 c).wf = true) (hv : Ints .u64 w v xs) (hx : ∀ x ∈ xs, (Lit.int .u64 x).wf = true) (hu : Ints .u64 w u b) (hy : ∀ x ∈ b, (Lit.int .u64 x).wf = true) (hfv : Ints .u64 w vf f) (hfw : ∀ x ∈ f, (Lit.int .u64 x).wf = true) :
    Calls Try.prog 5 #[.int .u64 p, .agg #[.int .i64 r, .int .i64 c, v], u, vf] w (Ret (.bool true) w) := by
  have hx' : U64s xs := fun x h => u64_wf (hx x h)
  have hf' : U64s f := fun x h => u64_wf (hfw x h)
  have hy' : U64s b := fun x h => u64_wf (hy x h)
  cases h : goB p r c xs b f with
  | false => exact walk_skip p r c v u vf xs b f w (u64_wf hp).1 (u64_wf hp).2 hv hx' hu hy' hfv hf' h
  | true =>
    unfold goB at h
    simp only [Bool.and_eq_true, decide_eq_true_eq] at h
    obtain ⟨h1, h2, h3, h4, h5, h6, h7, h8⟩ := h
    obtain ⟨m, n, rfl, rfl, ok⟩ := MatOk.of hx' h4
    obtain rfl : m = n := by omega
    obtain ⟨-, hf, -⟩ := polRight_of hf' h8
    obtain ⟨_, h10⟩ := hasB_true h6
    exact walk_yes p m v u vf xs b f w ok (taken_fld h3) h3 h1 hf h2 (by omega) (fun x hx => ⟨(hy' x hx).1, h10 x hx⟩) hv hu hfv

theorem own : ownKnob Try.prog.godebug = none := by kernel_rfl
set_option maxRecDepth 100000 in
theorem lifted (os : Os) (started : os.Started) (H : Type) (enc : TypeId × Value → H) :
    ReturnsInHanded {} Try.checked os 5 .any (Rows.krylovLeastSpec.pre6 enc Try.prog Try.f5 Rows.krylovLeastRow.domain false) (Rows.krylovLeastSpec.post enc Try.prog Try.f5 false true false false) := by
  refine returnsInHanded_of_change (C := Try.checked) own started (by kernel_rfl) Try.func5
    (ChangeSpec.witness6 (enc := enc) (C := Try.checked) false ⟨#[], #[.int .u64 0, .agg #[.int .i64 0, .int .i64 0, .slice none 0 0], .slice none 0 0, .slice none 0 0], []⟩ 8 (by kernel_rfl) (by kernel_rfl) (by kernel_rfl) (by kernel_rfl)) ?_
  intro W base args ds gs before hval0 hW _ _
  have hval : ∀ (j : Nat) t v, Try.f5.params[j]? = some t → args[j]? = some v → Value.okWide Try.prog W .any base t v := hval0
  have hW' := hW
  obtain ⟨p, q, hA0, hV, rfl, _, _⟩ := hW
  have hA : DataW.TrodAll enc Try.prog W 0 (fun _ => true) true Try.f5.params.toList args.toList ds p := hA0
  rw [Try.params5] at hA hval
  obtain ⟨v0, vs0, d0, ds0, p0, q0, hargs, rfl, rfl, h0, r0⟩ := trodAll_cons hA
  obtain ⟨v1, vs1, d1, ds1, p1, q1, rfl, rfl, rfl, h1, r1⟩ := trodAll_cons r0
  obtain ⟨v2, vs2, d2, ds2, p2, q2, rfl, rfl, rfl, h2, r2⟩ := trodAll_cons r1
  obtain ⟨v3, vs3, d3, ds3, p3, q3, rfl, rfl, rfl, h3, r3⟩ := trodAll_cons r2
  obtain ⟨rfl, rfl, rfl⟩ := trodAll_nil r3
  obtain rfl : args = #[v0, v1, v2, v3] := by cases args; simp_all
  obtain ⟨rfl, rfl⟩ := trodVars_none hV
  obtain ⟨a0, rfl, rfl, rfl, w0⟩ := open_int Try.underlying22 (hval 0 22 v0 rfl rfl) h0
  obtain ⟨mr1, mc1, mu1, xs1, rfl, wr1, wc1, i1, w1⟩ := open_Mat (hval 1 25 v1 rfl rfl) h1
  obtain ⟨xs2, i2, w2⟩ := open_Ints Try.underlying23 Try.underlying22 (by kernel_rfl) (hval 2 23 v2 rfl rfl) h2
  obtain ⟨xs3, i3, w3⟩ := open_Ints Try.underlying23 Try.underlying22 (by kernel_rfl) (hval 3 23 v3 rfl rfl) h3
  refine (walk a0 mr1 mc1 mu1 xs1 v2 xs2 v3 xs3 W w0 wr1 wc1 i1 w1 i2 w2 i3 w3).mono fun e W' ⟨he, hg⟩ => ⟨_, he, ?_⟩
  exact law_post (by kernel_rfl) (by kernel_rfl) rfl Try.underlying4 rfl rfl hW' hg

/-- the statement -/
theorem proved : Rows.KrylovLeastSaid :=
  OpenClaim.holds_of_wide 5 Try.f5 rfl rfl rfl rfl rfl rfl rfl ⟨rfl, rfl, rfl, rfl, rfl⟩ rfl rfl rfl rfl rfl (by kernel_rfl) Try.func5 (by kernel_rfl)
    (of_decide_eq_true (by kernel_rfl)) (by unfold Func.isWrapper; first | (rw [if_pos (by decide +kernel)]; kernel_rfl) | (rw [if_neg (by decide +kernel)]; exact ⟨rfl, rfl⟩))
    (fun os started H enc _ => lifted os started H enc)
end Go.Proofs.Ytfpmcajndgkgeaa.krylovLeast
