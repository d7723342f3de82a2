/- KrylovRing: whatever the number, the matrix, the two polynomials and the vector, the law answers true, and nothing that was there has turned. No condition. -/
import Derived.Test.YtfpmcajndgkgeaaKrylovRingS
import Derived.Test.YtfpmcajndgkgeaaLaw9
import Derived.Test.YtfpmcajndgkgeaaBun05
import Derived.Test.YtfpmcajndgkgeaaBun12
import Derived.Deep.RegionHeld3
namespace Go.Proofs.Ytfpmcajndgkgeaa.krylovRing
open Go.ChangeShapes Go.WideShapes Go.ChangeAt Go.RowKit Go.Maps


set_option maxRecDepth 100000 in
set_option maxHeartbeats 4000000 in
theorem walk_yes (p : Int) (n : Nat) (v vf vg u : Value) (xs f g b : List Int) (w : World) (ok : MatOk p n n xs) (hlen : xs.length ≤ 64) (hf : Pol p f) (hfl : f.length ≤ 12) (hg : Pol p g) (hgl : g.length ≤ 12) (hb : b.length = n) (hr : Rng p b) (hv : Ints .u64 w v xs) (hfv : Ints .u64 w vf f) (hgv : Ints .u64 w vg g) (hu : Ints .u64 w u b) :
    Calls Try.prog 8 #[.int .u64 p, matV n n v, vf, vg, u] w (Ret (.bool true) w) := by
  have hp2 := rightB_true ok.hp
  have C2 := hid fun (W : World) (hW : Ext w W) => (ok.b ▸ mxRight p n n v xs W (by omega) (by omega) (hv.ext hW) ok.u64 : Calls Try.prog 39 #[.int .u64 p, matV n n v] W (Ret (.bool true) W))
  have C3 := hid fun (W : World) (hW : Ext w W) => polRight_yes p vf f W ok.hp (hfv.ext hW) hf (by omega)
  have C4 := hid fun (W : World) (hW : Ext w W) => polRight_yes p vg g W ok.hp (hgv.ext hW) hg (by omega)
  have C5 := hid fun (W : World) (hW : Ext w W) => (hr.has ok.hp ▸ has_any p u b W (by omega) (by omega) (hu.ext hW) (hr.u64 hp2.2) : Calls Try.prog 40 #[.int .u64 p, u] W fun e w' => e = .returned (.bool true) ∧ W = w')
  have CA := hid fun (W : World) (hW : Ext w W) => pAdd_yes p vf vg f g W ok.hp (hfv.ext hW) (hgv.ext hW) hf hg (by omega)
  have CM := hid fun (W : World) (hW : Ext w W) => pMul_yes p vf vg f g W ok.hp (hfv.ext hW) (hgv.ext hW) hf hg (by omega) ((((pol_low f).mono hfl).mul ((pol_low g).mono hgl)).mono (by omega))
  have CD := hid fun (W : World) (z y : Value) (h q : List Int) (hW : Ext w W) (hz : Ints .u64 W z h) (hh : Pol p h) (hl : h.length ≤ 24) (hy : Ints .u64 W y q) (hq : q.length = n) (hrq : Rng p q) => krDo p n z v y h xs q W ok hz hh (by omega) (hv.ext hW) hy hq hrq
  have CT := hid fun (W : World) (hW : Ext w W) => mxTimes_yes p n n v u xs b W ok (hv.ext hW) (hu.ext hW) hr hb
  have CP := hid fun (W : World) (hW : Ext w W) => (show Calls Try.prog 26 #[.int .u64 p, matV n n v, u, .int .i64 4] W (RetPows (powsL p n xs b 4) W) from krPowers p n 4 v u xs b W ok (hv.ext hW) (hu.ext hW) hb hr (by omega))
  have CQ := hid fun (W : World) (z : Value) (hW : Ext w W) (hz : Ints .u64 W z (timesL p n n xs b)) => (show Calls Try.prog 26 #[.int .u64 p, matV n n v, z, .int .i64 3] W (RetPows (powsL p n xs (timesL p n n xs b) 3) W) from krPowers p n 3 v z xs _ W ok (hv.ext hW) hz (timesL_len _ _ _ _) (timesL_rng hp2.1 _ _ _ _) (by omega))
  have HU := hid hu; have HF := hid hfv; have HG := hid hgv
  -- names for what is made
  obtain ⟨DA, eA⟩ : ∃ l, pdoL p n xs f b = l := ⟨_, rfl⟩
  obtain ⟨DB, eB⟩ : ∃ l, pdoL p n xs g b = l := ⟨_, rfl⟩
  obtain ⟨TV, eT⟩ : ∃ l, timesL p n n xs b = l := ⟨_, rfl⟩
  have hxx : pdoL p n xs [0, 1] b = TV := by rw [← eT]; exact pdoL_x
  have P1 : powsL p n xs b 4 = [b, TV, timesL p n n xs TV, timesL p n n xs (timesL p n n xs TV)] := by rw [← eT]; rfl
  have P2 : powsL p n xs TV 3 = [TV, timesL p n n xs TV, timesL p n n xs (timesL p n n xs TV)] := rfl
  obtain ⟨T2, eT2⟩ : ∃ l, timesL p n n xs TV = l := ⟨_, rfl⟩
  rw [eT2] at P1 P2
  obtain ⟨T3, eT3⟩ : ∃ l, timesL p n n xs T2 = l := ⟨_, rfl⟩
  rw [eT3] at P1 P2
  have lA : DA.length = n := by rw [← eA]; exact pdoL_len _ _
  have rA : Rng p DA := by rw [← eA]; exact pdoL_rng hp2.1 _ _
  have lB : DB.length = n := by rw [← eB]; exact pdoL_len _ _
  have rB : Rng p DB := by rw [← eB]; exact pdoL_rng hp2.1 _ _
  have lT : TV.length = n := by rw [← eT]; exact timesL_len _ _ _ _
  have lT2 : T2.length = n := by rw [← eT2]; exact timesL_len _ _ _ _
  have lT3 : T3.length = n := by rw [← eT3]; exact timesL_len _ _ _ _
  rw [eT] at CT CQ
  rw [P1] at CP
  rw [P2] at CQ
  have LA := hid lA; have LB := hid lB; have LT := hid lT; have RA := hid rA; have RB := hid rB; have LT2 := hid lT2; have LT3 := hid lT3
  have EA := hid eA; have EB := hid eB; have HXX := hid hxx
  have Hp := hid ok.hp; have HR := hid hr; have HPF := hid hf; have HPG := hid hg
  have hn := ok.hn
  have t1 : decide (64 < (xs.length : Int)) = false := decide_eq_false (by omega)
  have t1' : decide (64 < xs.length) = false := decide_eq_false (by omega)
  have t2 : decide (12 < (f.length : Int)) = false := decide_eq_false (by omega)
  have t2' : decide (12 < f.length) = false := decide_eq_false (by omega)
  have t3 : decide (12 < (g.length : Int)) = false := decide_eq_false (by omega)
  have t3' : decide (12 < g.length) = false := decide_eq_false (by omega)
  have t4 : ((n : Int) != (n : Int)) = false := by simp
  have Hb := hid hb; have HFl := hid hfl; have HGl := hid hgl
  obtain ⟨a, cap, rfl, k1, k2, k3⟩ := hv
  obtain ⟨af, cf, rfl, -, -, -⟩ := hfv
  obtain ⟨ag, cg, rfl, -, -, -⟩ := hgv
  obtain ⟨a', cap', rfl, KB⟩ := partsV hu hb

  clear k3 hu hb hr hf hg hfl hgl hlen eA eB eT eT2 eT3 hxx P1 P2 lA rA lB rB lT lT2 lT3 KB ok
  have HA := hid (Blk.new w 25 #[.int .i64 (n : Int), .int .i64 (n : Int), .slice a xs.length cap])
  have hW0 := hid ((Ext.refl w).alloc (.cells #[.int .i64 (n : Int), .int .i64 (n : Int), .slice a xs.length cap] 25))
  unfold matV at C2 CD CT CP CQ
  unfold matV
  unfold RetE at CD
  unfold RetV at CT
  unfold RetPows at CP CQ
  unfold RetT at CA CM
  go_enter Try.func8, Try.ntmps8
  go_wp2_with fail
  refine (awake09 _).mono ?_
  rintro _ w1 ⟨rfl, xw1⟩
  obtain ⟨ha_0, ha_1, ha_2⟩ := (HA.out.ext xw1).at3
  go_wp2_with fail
  refine (C2.out _ (hW0.out.trans xw1)).mono ?_
  rintro _ w2 ⟨rfl, xw2⟩
  clear ha_0 ha_1 ha_2
  obtain ⟨ha_0, ha_1, ha_2⟩ := (HA.out.ext (xw1.trans xw2)).at3
  go_wp2_with fail
  refine (C3.out _ (hW0.out.trans (xw1.trans xw2))).mono ?_
  rintro _ _ ⟨rfl, rfl⟩
  go_wp2_with fail
  refine (C4.out _ (hW0.out.trans (xw1.trans xw2))).mono ?_
  rintro _ _ ⟨rfl, rfl⟩
  go_wp2_with fail
  refine (C5.out _ (hW0.out.trans (xw1.trans xw2))).mono ?_
  rintro _ _ ⟨rfl, rfl⟩
  clear C2 C3 C4 C5
  go_wp2_with fail
  refine (CA.out _ (hW0.out.trans (xw1.trans xw2))).mono ?_
  rintro _ w3 ⟨vs, zs, rfl, is3, ps, es, xw3⟩
  have IS := hid is3; have PS := hid ps; have ES := hid es
  have ZL := hid (len_sum ps es HFl.out HGl.out)
  obtain ⟨as3, ks, rfl, -, -, -⟩ := is3
  clear ps es
  clear ha_0 ha_1 ha_2
  go_wp2_with fail
  refine (CM.out _ (hW0.out.trans (xw1.trans (xw2.trans xw3)))).mono ?_
  rintro _ w4 ⟨vt, ts, rfl, it, pt, et, xw4⟩
  have IT := hid it; have PT := hid pt; have ET := hid et
  have TL := hid (len_prod pt et HFl.out HGl.out)
  obtain ⟨at4, kt, rfl, -, -, -⟩ := it
  clear pt et CA CM
  obtain ⟨ha_0, ha_1, ha_2⟩ := (HA.out.ext (xw1.trans (xw2.trans (xw3.trans xw4)))).at3
  go_wp2_with fail
  refine (CD.out _ _ _ _ _ (hW0.out.trans (xw1.trans (xw2.trans (xw3.trans xw4)))) (HF.out.ext (hW0.out.trans (xw1.trans (xw2.trans (xw3.trans xw4))))) HPF.out (by have := HFl.out; omega) (HU.out.ext (hW0.out.trans (xw1.trans (xw2.trans (xw3.trans xw4))))) Hb.out HR.out).mono ?_
  rintro _ w5 ⟨vda, rfl, ida, xw5⟩
  clear ha_0 ha_1 ha_2
  rw [EA.out] at ida
  have IA := hid ida
  obtain ⟨ada, kda, rfl, Kda⟩ := partsV ida LA.out
  have Kda := hid Kda
  clear ida
  obtain ⟨ha_0, ha_1, ha_2⟩ := (HA.out.ext (xw1.trans (xw2.trans (xw3.trans (xw4.trans xw5))))).at3
  go_wp2_with fail
  refine (CD.out _ _ _ _ _ (hW0.out.trans (xw1.trans (xw2.trans (xw3.trans (xw4.trans xw5))))) (HG.out.ext (hW0.out.trans (xw1.trans (xw2.trans (xw3.trans (xw4.trans xw5)))))) HPG.out (by have := HGl.out; omega) (HU.out.ext (hW0.out.trans (xw1.trans (xw2.trans (xw3.trans (xw4.trans xw5)))))) Hb.out HR.out).mono ?_
  rintro _ w6 ⟨vdb, rfl, idb, xw6⟩
  clear ha_0 ha_1 ha_2
  rw [EB.out] at idb
  have IB := hid idb
  obtain ⟨adb, kdb, rfl, Kdb⟩ := partsV idb LB.out
  have Kdb := hid Kdb
  clear idb
  obtain ⟨DC, eC⟩ : ∃ l, pdoL p n xs zs b = l := ⟨_, rfl⟩
  have lC : DC.length = n := by rw [← eC]; exact pdoL_len _ _
  have hsum : ∀ i, i < n → DC.getD i 0 = (DA.getD i 0 + DB.getD i 0) % p := fun i hi => by rw [← eC, ← EA.out, ← EB.out]; exact pdoL_add ES.out hi
  have HSUM := hid hsum; have EC := hid eC; have LC := hid lC
  clear hsum eC lC
  obtain ⟨ha_0, ha_1, ha_2⟩ := (HA.out.ext (xw1.trans (xw2.trans (xw3.trans (xw4.trans (xw5.trans xw6)))))).at3
  go_wp2_with fail
  refine (CD.out _ _ _ _ _ (hW0.out.trans (xw1.trans (xw2.trans (xw3.trans (xw4.trans (xw5.trans xw6)))))) (IS.out.ext (xw4.trans (xw5.trans xw6))) PS.out (by have := ZL.out; omega) (HU.out.ext (hW0.out.trans (xw1.trans (xw2.trans (xw3.trans (xw4.trans (xw5.trans xw6))))))) Hb.out HR.out).mono ?_
  rintro _ w7 ⟨vdc, rfl, idc, xw7⟩
  clear ha_0 ha_1 ha_2
  rw [EC.out] at idc
  have IC := hid idc
  obtain ⟨adc, kdc, rfl, Kdc⟩ := partsV idc LC.out
  have Kdc := hid Kdc
  clear idc
  obtain ⟨DD, eD⟩ : ∃ l, pdoL p n xs ts b = l := ⟨_, rfl⟩
  have lD : DD.length = n := by rw [← eD]; exact pdoL_len _ _
  have hmul : pdoL p n xs f DB = DD := by rw [← eD, ← EB.out]; exact (pdoL_mul ET.out).symm
  have HMUL := hid hmul; have ED := hid eD; have LD := hid lD
  clear hmul eD lD
  obtain ⟨ha_0, ha_1, ha_2⟩ := (HA.out.ext (xw1.trans (xw2.trans (xw3.trans (xw4.trans (xw5.trans (xw6.trans xw7))))))).at3
  go_wp2_with fail
  refine (CD.out _ _ _ _ _ (hW0.out.trans (xw1.trans (xw2.trans (xw3.trans (xw4.trans (xw5.trans (xw6.trans xw7))))))) (IT.out.ext (xw5.trans (xw6.trans xw7))) PT.out TL.out (HU.out.ext (hW0.out.trans (xw1.trans (xw2.trans (xw3.trans (xw4.trans (xw5.trans (xw6.trans xw7)))))))) Hb.out HR.out).mono ?_
  rintro _ w8 ⟨vdd, rfl, idd, xw8⟩
  clear ha_0 ha_1 ha_2
  rw [ED.out] at idd
  have ID := hid idd
  obtain ⟨add, kdd, rfl, Kdd⟩ := partsV idd LD.out
  have Kdd := hid Kdd
  clear idd
  obtain ⟨ha_0, ha_1, ha_2⟩ := (HA.out.ext (xw1.trans (xw2.trans (xw3.trans (xw4.trans (xw5.trans (xw6.trans (xw7.trans xw8)))))))).at3
  go_wp2_with fail
  refine (CD.out _ _ _ _ _ (hW0.out.trans (xw1.trans (xw2.trans (xw3.trans (xw4.trans (xw5.trans (xw6.trans (xw7.trans xw8)))))))) (HF.out.ext (hW0.out.trans (xw1.trans (xw2.trans (xw3.trans (xw4.trans (xw5.trans (xw6.trans (xw7.trans xw8))))))))) HPF.out (by have := HFl.out; omega) (IB.out.ext (xw7.trans xw8)) LB.out RB.out).mono ?_
  rintro _ w9 ⟨vdab, rfl, idab, xw9⟩
  clear ha_0 ha_1 ha_2
  rw [HMUL.out] at idab
  have IAB := hid idab
  obtain ⟨adab, kdab, rfl, Kdab⟩ := partsV idab LD.out
  have Kdab := hid Kdab
  clear idab
  have z11 := (Ext.refl w9).alloc (.cells #[.int .u64 0, .int .u64 1] 22)
  obtain ⟨ha_0, ha_1, ha_2⟩ := (HA.out.ext (xw1.trans (xw2.trans (xw3.trans (xw4.trans (xw5.trans (xw6.trans (xw7.trans (xw8.trans (xw9.trans z11)))))))))).at3
  go_wp2_with fail
  have PX := hid (show Pol p [0, 1] from ⟨fun x hx => by have := (rightB_true Hp.out).1; simp at hx; omega, fun _ => by decide⟩)
  refine (CD.out _ _ _ _ _ (hW0.out.trans (xw1.trans (xw2.trans (xw3.trans (xw4.trans (xw5.trans (xw6.trans (xw7.trans (xw8.trans (xw9.trans z11)))))))))) (Ints.lit (k := .u64) (w := w9) (t := 22) [0, 1] (by decide) rfl) PX.out (by decide) (HU.out.ext (hW0.out.trans (xw1.trans (xw2.trans (xw3.trans (xw4.trans (xw5.trans (xw6.trans (xw7.trans (xw8.trans (xw9.trans z11))))))))))) Hb.out HR.out).mono ?_
  rintro _ w10 ⟨vx, rfl, ix, xw10⟩
  rw [HXX.out] at ix
  have IX := hid ix
  obtain ⟨ax, kx, rfl, -⟩ := partsV ix LT.out
  clear ix
  clear ha_0 ha_1 ha_2
  obtain ⟨ha_0, ha_1, ha_2⟩ := (HA.out.ext (xw1.trans (xw2.trans (xw3.trans (xw4.trans (xw5.trans (xw6.trans (xw7.trans (xw8.trans (xw9.trans (z11.trans xw10))))))))))).at3
  go_wp2_with fail
  refine (CT.out _ (hW0.out.trans (xw1.trans (xw2.trans (xw3.trans (xw4.trans (xw5.trans (xw6.trans (xw7.trans (xw8.trans (xw9.trans (z11.trans xw10)))))))))))).mono ?_
  rintro _ w11 ⟨vw, rfl, iw, xw11⟩
  clear ha_0 ha_1 ha_2
  have IW := hid iw
  obtain ⟨aw, kw, rfl, -⟩ := partsV iw LT.out
  clear iw
  obtain ⟨ha_0, ha_1, ha_2⟩ := (HA.out.ext (xw1.trans (xw2.trans (xw3.trans (xw4.trans (xw5.trans (xw6.trans (xw7.trans (xw8.trans (xw9.trans (z11.trans (xw10.trans xw11)))))))))))).at3
  go_wp2_with fail
  refine (CP.out _ (hW0.out.trans (xw1.trans (xw2.trans (xw3.trans (xw4.trans (xw5.trans (xw6.trans (xw7.trans (xw8.trans (xw9.trans (z11.trans (xw10.trans xw11))))))))))))).mono ?_
  rintro _ w12 ⟨gl, ul, rfl, p1, p2, p3, xw12⟩
  clear ha_0 ha_1 ha_2
  obtain ⟨al0, kl0, cl0, il0⟩ := pows_at (j := 0) p1 p2 p3 (by simp)
  simp only [List.getD_cons_zero] at il0 cl0
  have Il0 := hid il0; have Cl0 := hid cl0
  obtain ⟨al1, kl1, cl1, il1⟩ := pows_at (j := 1) p1 p2 p3 (by simp)
  simp only [List.getD_cons_zero, List.getD_cons_succ] at il1 cl1
  have Il1 := hid il1; have Cl1 := hid cl1
  obtain ⟨al3, kl3, cl3, il3⟩ := pows_at (j := 3) p1 p2 p3 (by simp)
  simp only [List.getD_cons_zero, List.getD_cons_succ] at il3 cl3
  have Il3 := hid il3; have Cl3 := hid cl3
  clear p1 p2 p3 il0 cl0 il1 cl1 il3 cl3
  obtain ⟨ha_0, ha_1, ha_2⟩ := (HA.out.ext (xw1.trans (xw2.trans (xw3.trans (xw4.trans (xw5.trans (xw6.trans (xw7.trans (xw8.trans (xw9.trans (z11.trans (xw10.trans (xw11.trans xw12))))))))))))).at3
  go_wp2_with fail
  refine (CQ.out _ _ (hW0.out.trans (xw1.trans (xw2.trans (xw3.trans (xw4.trans (xw5.trans (xw6.trans (xw7.trans (xw8.trans (xw9.trans (z11.trans (xw10.trans (xw11.trans xw12))))))))))))) (IW.out.ext xw12)).mono ?_
  rintro _ w13 ⟨gk, uk, rfl, p1, p2, p3, xw13⟩
  clear ha_0 ha_1 ha_2
  obtain ⟨ak0, kk0, ck0, ik0⟩ := pows_at (j := 0) p1 p2 p3 (by simp)
  simp only [List.getD_cons_zero] at ik0 ck0
  have Ik0 := hid ik0; have Ck0 := hid ck0
  obtain ⟨ak2, kk2, ck2, ik2⟩ := pows_at (j := 2) p1 p2 p3 (by simp)
  simp only [List.getD_cons_zero, List.getD_cons_succ] at ik2 ck2
  have Ik2 := hid ik2; have Ck2 := hid ck2
  clear p1 p2 p3 ik0 ck0 ik2 ck2
  clear CD CT CP CQ
  go_wp2_with fail
  refine (same_yes _ _ _ _ (ID.out.ext (xw9.trans (z11.trans (xw10.trans (xw11.trans (xw12.trans xw13)))))) (IAB.out.ext (z11.trans (xw10.trans (xw11.trans (xw12.trans xw13)))))).mono ?_
  rintro _ w14 ⟨rfl, xw14⟩
  go_wp2_with fail
  refine (same_yes _ _ _ _ (IX.out.ext (xw11.trans (xw12.trans (xw13.trans xw14)))) (IW.out.ext (xw12.trans (xw13.trans xw14)))).mono ?_
  rintro _ w15 ⟨rfl, xw15⟩
  go_wp2_with fail
  go_loopw [33] (fun iv wr => ∃ k : Nat, iv = .int .i64 k ∧ k ≤ n ∧ Hid (Ext w15 wr)) (fun iv _ => n - (intOf iv).toNat)
  case atStart => exact ⟨0, rfl, Nat.zero_le _, hid (Ext.refl _)⟩
  case round =>
    obtain ⟨k, rfl, hk, hxk⟩ := hrel
    rename World => wr
    by_cases hlt : k < n
    · obtain ⟨bx, ox, rfl, hbx, kcx⟩ := (Kda.out.ext (xw6.trans (xw7.trans (xw8.trans (xw9.trans (z11.trans (xw10.trans (xw11.trans (xw12.trans (xw13.trans (xw14.trans xw15))))))))))) (by omega)
      obtain ⟨by', oy, rfl, hby, kcy⟩ := (Kdb.out.ext (xw7.trans (xw8.trans (xw9.trans (z11.trans (xw10.trans (xw11.trans (xw12.trans (xw13.trans (xw14.trans xw15)))))))))) (by omega)
      obtain ⟨bz, oz, rfl, hbz, kcz⟩ := (Kdc.out.ext (xw8.trans (xw9.trans (z11.trans (xw10.trans (xw11.trans (xw12.trans (xw13.trans (xw14.trans xw15))))))))) (by omega)
      have g := (hxk.out.cells _ _ hbx).trans (kcx k hlt)
      have g' := (hxk.out.cells _ _ hby).trans (kcy k hlt)
      have g2 := (hxk.out.cells _ _ hbz).trans (kcz k hlt)
      have r := RA.out.getD (rightB_true Hp.out).1 k
      have r' := RB.out.getD (rightB_true Hp.out).1 k
      have hs := HSUM.out k hlt
      obtain ⟨q, eq⟩ : ∃ t, DA.getD k 0 = t := ⟨_, rfl⟩
      obtain ⟨q', eq'⟩ : ∃ t, DB.getD k 0 = t := ⟨_, rfl⟩
      rw [eq, eq'] at hs
      rw [eq] at g r; rw [eq'] at g' r'
      rw [hs] at g2
      obtain ⟨s, es, s0, s1⟩ := name_mod (p := p) (q + q') (rightB_true Hp.out).1
      rw [es] at g2
      have Es := hid es
      clear eq eq' es kcx kcy kcz hs
      have gs := hid (fun (W : World) (hW : Ext wr W) => And.intro ((hW.cells _ _ (cell_lt g)).trans g) ((hW.cells _ _ (cell_lt g')).trans g'))
      have hbs : (s != s) = false := by simp
      go_wp2_with fail
      go_region_held3 (fun w' => w'.cell? ⟨bx, ox + k, none⟩ = some (.int .u64 q) ∧ w'.cell? ⟨by', oy + k, none⟩ = some (.int .u64 q')) (first | exact gs.out _ ((Ext.refl wr).drew) | exact gs.out _ (((Ext.refl wr).drew).trans x5))
        ((go_at_call 53; refine (add_as p q q' s _ Hp.out r.1 r.2 r'.1 r'.2 Es.out).mono ?_; rintro _ w5' ⟨rfl, x5⟩))
      have e5 : Ext wr w5' := ((Ext.refl wr).drew).trans x5
      have g5 := (e5.cells _ _ (cell_lt g2)).trans g2
      have hx5 := hxk.out.trans e5
      clear x5 g g' g2
      go_wp2_with fail
      go_roundw
      case rel => exact ⟨k + 1, by go_num, by omega, hid hx5⟩
      case measure => simp [intOf]; omega
    · obtain rfl : n = k := by omega
      have fs := hid fun (W : World) (hW : Ext wr W) => (show W.cell? ⟨gl, 1, none⟩ = some (.slice al1 _ kl1) ∧ W.cell? ⟨gk, 0, none⟩ = some (.slice ak0 _ kk0) ∧ W.cell? ⟨gl, 3, none⟩ = some (.slice al3 _ kl3) ∧ W.cell? ⟨gk, 2, none⟩ = some (.slice ak2 _ kk2) ∧ W.cell? ⟨gl, 0, none⟩ = some (.slice al0 _ kl0) from
        ⟨Cl1.out W ((xw13.trans (xw14.trans (xw15.trans hxk.out))).trans hW), Ck0.out W ((xw14.trans (xw15.trans hxk.out)).trans hW), Cl3.out W ((xw13.trans (xw14.trans (xw15.trans hxk.out))).trans hW), Ck2.out W ((xw14.trans (xw15.trans hxk.out)).trans hW), Cl0.out W ((xw13.trans (xw14.trans (xw15.trans hxk.out))).trans hW)⟩)
      go_wp2_with fail
      go_region_held3 (fun w' => w'.cell? ⟨gl, 1, none⟩ = some (.slice al1 TV.length kl1) ∧ w'.cell? ⟨gk, 0, none⟩ = some (.slice ak0 TV.length kk0) ∧ w'.cell? ⟨gl, 3, none⟩ = some (.slice al3 T3.length kl3) ∧ w'.cell? ⟨gk, 2, none⟩ = some (.slice ak2 T3.length kk2) ∧ w'.cell? ⟨gl, 0, none⟩ = some (.slice al0 b.length kl0))
        (first | exact fs.out _ ((Ext.refl wr).drew) | exact fs.out _ (((Ext.refl wr).drew).trans x16) | exact fs.out _ ((((Ext.refl wr).drew).trans x16).trans x17) | exact fs.out _ (((((Ext.refl wr).drew).trans x16).trans x17).trans x18))
        ((first
          | (go_at_call 20; refine (same_yes (.slice al0 b.length kl0) _ b _ (Il0.out.ext ((xw13.trans (xw14.trans (xw15.trans hxk.out))).trans ((((Ext.refl wr).drew).trans x16).trans x17))) (HU.out.ext ((hW0.out.trans (xw1.trans (xw2.trans (xw3.trans (xw4.trans (xw5.trans (xw6.trans (xw7.trans (xw8.trans (xw9.trans (z11.trans (xw10.trans (xw11.trans (xw12.trans (xw13.trans (xw14.trans (xw15.trans hxk.out))))))))))))))))).trans ((((Ext.refl wr).drew).trans x16).trans x17)))).mono ?_; rintro _ w18 ⟨rfl, x18⟩)
          | (go_at_call 20; refine (same_yes (.slice al3 T3.length kl3) (.slice ak2 T3.length kk2) T3 _ (Il3.out.ext ((xw13.trans (xw14.trans (xw15.trans hxk.out))).trans (((Ext.refl wr).drew).trans x16))) (Ik2.out.ext ((xw14.trans (xw15.trans hxk.out)).trans (((Ext.refl wr).drew).trans x16)))).mono ?_; rintro _ w17 ⟨rfl, x17⟩)
          | (go_at_call 20; refine (same_yes (.slice al1 TV.length kl1) (.slice ak0 TV.length kk0) TV _ (Il1.out.ext ((xw13.trans (xw14.trans (xw15.trans hxk.out))).trans ((Ext.refl wr).drew))) (Ik0.out.ext ((xw14.trans (xw15.trans hxk.out)).trans ((Ext.refl wr).drew)))).mono ?_; rintro _ w16 ⟨rfl, x16⟩)))
      go_wp2_with fail
      go_ret
      exact ⟨rfl, ((hW0.out.trans (xw1.trans (xw2.trans (xw3.trans (xw4.trans (xw5.trans (xw6.trans (xw7.trans (xw8.trans (xw9.trans (z11.trans (xw10.trans (xw11.trans (xw12.trans (xw13.trans (xw14.trans (xw15.trans hxk.out))))))))))))))))).trans (((((Ext.refl wr).drew).trans x16).trans x17).trans x18))⟩

/-- the law answers true -/
theorem walk (p r c : Int) (v : Value) (xs : List Int) (vf : Value) (f : List Int) (vg : Value) (g : List Int) (u : Value) (b : List Int) (w : World) (hp : (Lit.int .u64 p).wf = true) (_ : (Lit.int .i64 r).wf = true) (_ : (Lit.int .i64 c).wf = true) (hv : Ints .u64 w v xs) (hx : ∀ x ∈ xs, (Lit.int .u64 x).wf = true) (hfv : Ints .u64 w vf f) (hfw : ∀ x ∈ f, (Lit.int .u64 x).wf = true) (hgv : Ints .u64 w vg g) (hgw : ∀ x ∈ g, (Lit.int .u64 x).wf = true) (hu : Ints .u64 w u b) (hy : ∀ x ∈ b, (Lit.int .u64 x).wf = true) :
    Calls Try.prog 8 #[.int .u64 p, .agg #[.int .i64 r, .int .i64 c, v], vf, vg, u] w (Ret (.bool true) w) := by
  have hx' : U64s xs := fun x h => u64_wf (hx x h)
  have hf' : U64s f := fun x h => u64_wf (hfw x h)
  have hg' : U64s g := fun x h => u64_wf (hgw x h)
  have hy' : U64s b := fun x h => u64_wf (hy x h)
  cases h : goB p r c xs f g b with
  | false => exact walk_skip p r c v vf vg u xs f g b w (u64_wf hp).1 (u64_wf hp).2 hv hx' hfv hf' hgv hg' hu hy' h
  | true =>
    unfold goB at h
    simp only [Bool.and_eq_true, decide_eq_true_eq] at h
    obtain ⟨h1, h2, h3, h4, h5, h6, h7, h8, h9⟩ := h
    obtain ⟨m, n, rfl, rfl, ok⟩ := MatOk.of hx' h4
    obtain rfl : m = n := by omega
    obtain ⟨-, hf, -⟩ := polRight_of hf' h6
    obtain ⟨-, hg, -⟩ := polRight_of hg' h7
    obtain ⟨_, h10⟩ := hasB_true h8
    exact walk_yes p m v vf vg u xs f g b w ok h1 hf h2 hg h3 (by omega) (fun x hx => ⟨(hy' x hx).1, h10 x hx⟩) hv hfv hgv hu

theorem own : ownKnob Try.prog.godebug = none := by kernel_rfl
set_option maxRecDepth 100000 in
theorem lifted (os : Os) (started : os.Started) (H : Type) (enc : TypeId × Value → H) :
    ReturnsInHanded {} Try.checked os 8 .any (Rows.krylovRingSpec.pre6 enc Try.prog Try.f8 Rows.krylovRingRow.domain false) (Rows.krylovRingSpec.post enc Try.prog Try.f8 false true false false) := by
  refine returnsInHanded_of_change (C := Try.checked) own started (by kernel_rfl) Try.func8
    (ChangeSpec.witness6 (enc := enc) (C := Try.checked) false ⟨#[], #[.int .u64 0, .agg #[.int .i64 0, .int .i64 0, .slice none 0 0], .slice none 0 0, .slice none 0 0, .slice none 0 0], []⟩ 8 (by kernel_rfl) (by kernel_rfl) (by kernel_rfl) (by kernel_rfl)) ?_
  intro W base args ds gs before hval0 hW _ _
  have hval : ∀ (j : Nat) t v, Try.f8.params[j]? = some t → args[j]? = some v → Value.okWide Try.prog W .any base t v := hval0
  have hW' := hW
  obtain ⟨p, q, hA0, hV, rfl, _, _⟩ := hW
  have hA : DataW.TrodAll enc Try.prog W 0 (fun _ => true) true Try.f8.params.toList args.toList ds p := hA0
  rw [Try.params8] at hA hval
  obtain ⟨v0, vs0, d0, ds0, p0, q0, hargs, rfl, rfl, h0, r0⟩ := trodAll_cons hA
  obtain ⟨v1, vs1, d1, ds1, p1, q1, rfl, rfl, rfl, h1, r1⟩ := trodAll_cons r0
  obtain ⟨v2, vs2, d2, ds2, p2, q2, rfl, rfl, rfl, h2, r2⟩ := trodAll_cons r1
  obtain ⟨v3, vs3, d3, ds3, p3, q3, rfl, rfl, rfl, h3, r3⟩ := trodAll_cons r2
  obtain ⟨v4, vs4, d4, ds4, p4, q4, rfl, rfl, rfl, h4, r4⟩ := trodAll_cons r3
  obtain ⟨rfl, rfl, rfl⟩ := trodAll_nil r4
  obtain rfl : args = #[v0, v1, v2, v3, v4] := by cases args; simp_all
  obtain ⟨rfl, rfl⟩ := trodVars_none hV
  obtain ⟨a0, rfl, rfl, rfl, w0⟩ := open_int Try.underlying22 (hval 0 22 v0 rfl rfl) h0
  obtain ⟨mr1, mc1, mu1, xs1, rfl, wr1, wc1, i1, w1⟩ := open_Mat (hval 1 25 v1 rfl rfl) h1
  obtain ⟨xs2, i2, w2⟩ := open_Ints Try.underlying23 Try.underlying22 (by kernel_rfl) (hval 2 23 v2 rfl rfl) h2
  obtain ⟨xs3, i3, w3⟩ := open_Ints Try.underlying23 Try.underlying22 (by kernel_rfl) (hval 3 23 v3 rfl rfl) h3
  obtain ⟨xs4, i4, w4⟩ := open_Ints Try.underlying23 Try.underlying22 (by kernel_rfl) (hval 4 23 v4 rfl rfl) h4
  refine (walk a0 mr1 mc1 mu1 xs1 v2 xs2 v3 xs3 v4 xs4 W w0 wr1 wc1 i1 w1 i2 w2 i3 w3 i4 w4).mono fun e W' ⟨he, hg⟩ => ⟨_, he, ?_⟩
  exact law_post (by kernel_rfl) (by kernel_rfl) rfl Try.underlying4 rfl rfl hW' hg

/-- the statement -/
theorem proved : Rows.KrylovRingSaid :=
  OpenClaim.holds_of_wide 8 Try.f8 rfl rfl rfl rfl rfl rfl rfl ⟨rfl, rfl, rfl, rfl, rfl⟩ rfl rfl rfl rfl rfl (by kernel_rfl) Try.func8 (by kernel_rfl)
    (of_decide_eq_true (by kernel_rfl)) (by unfold Func.isWrapper; first | (rw [if_pos (by decide +kernel)]; kernel_rfl) | (rw [if_neg (by decide +kernel)]; exact ⟨rfl, rfl⟩))
    (fun os started H enc _ => lifted os started H enc)
end Go.Proofs.Ytfpmcajndgkgeaa.krylovRing
