/- Package frame: Next and Read. -/
import Derived.Test.YticabjdcegimcaaFr6
namespace Go.Proofs.Yticabjdcegimcaa
open Go.RowKit Go.Maps

/-- what Next tells: the frame, how many bytes it has -/
def nxF (xs : List Int) : Frm := if nextE xs = 0 then nextF xs else Frm.zero
def nxN (xs : List Int) : Int := if nextE xs = 0 then 12 + 8 * cntF xs else 0
def RetNx (xs : List Int) (w : World) (e : Ending) (w' : World) : Prop := ∃ u, e = .returned (.tuple #[frmV (nxF xs) u, .int .i64 (nxN xs), .int .i64 (nextE xs)]) ∧ w'.ownsRow w.heap.size 48 1 u (nxF xs).body.length ((nxF xs).body.map (Value.int .u64)) ∧ Ext w w'
theorem nx_no {xs : List Int} {k : Int} (h : nextE xs = k) (hk : k ≠ 0) : nxF xs = Frm.zero ∧ nxN xs = 0 := by
  unfold nxF nxN; rw [h, if_neg hk, if_neg hk]; exact ⟨rfl, rfl⟩
theorem nx_yes {xs : List Int} (h : nextE xs = 0) : nxF xs = nextF xs ∧ nxN xs = 12 + 8 * cntF xs := by
  unfold nxF nxN; rw [h]; exact ⟨rfl, rfl⟩
theorem zero_may : mayF Frm.zero = false := by decide
/-- the first nine -/
theorem take9 {xs : List Int} (h : 9 ≤ xs.length) : (xs.take 9).length = 9 ∧ cntF (xs.take 9) = cntF xs ∧ headF (xs.take 9) = ⟨xs.getD 1 0, xs.getD 2 0, ofB (cutL xs 3 4), []⟩ := by
  refine ⟨by rw [List.length_take]; omega, (like fun k hk => take_get hk).2, ?_⟩
  unfold headF
  rw [take_get (by omega), take_get (by omega)]
  congr 2
  unfold cutL
  rw [List.drop_take, List.take_take]
  rfl
theorem may_head (k r n : Int) (hr : 0 ≤ r ∧ r < 256) : mayF ⟨k, r, n, []⟩ = decide (0 < k ∧ k < 5) := by
  unfold mayF
  rw [Bool.eq_iff_iff]
  simp
  omega
theorem nextE_short {xs : List Int} (h : xs.length < 12) : nextE xs = 3 := by unfold nextE; rw [if_pos h]
theorem nextE_form {xs : List Int} (h : 12 ≤ xs.length) (h2 : formB xs = false) : nextE xs = 2 := by unfold nextE; rw [if_neg (by omega), if_pos h2]
theorem nextE_long {xs : List Int} (h : 12 ≤ xs.length) (h2 : formB xs = true) (h3 : xs.length < 12 + 8 * (cntF xs).toNat) : nextE xs = 3 := by unfold nextE; rw [if_neg (by omega), h2, if_neg (by simp), if_pos h3]
theorem nextE_sum {xs : List Int} (h : 12 ≤ xs.length) (h2 : formB xs = true) (h3 : 12 + 8 * (cntF xs).toNat ≤ xs.length) (h4 : ofB (cutL xs (9 + 8 * (cntF xs).toNat) 3) ≠ sumL (xs.take (9 + 8 * (cntF xs).toNat))) : nextE xs = 4 := by
  unfold nextE; rw [if_neg (by omega), h2, if_neg (by simp), if_neg (by omega), if_pos h4]
theorem nextE_fine {xs : List Int} (h : 12 ≤ xs.length) (h2 : formB xs = true) (h3 : 12 + 8 * (cntF xs).toNat ≤ xs.length) (h4 : ofB (cutL xs (9 + 8 * (cntF xs).toNat) 3) = sumL (xs.take (9 + 8 * (cntF xs).toNat))) : nextE xs = 0 := by
  unfold nextE; rw [if_neg (by omega), h2, if_neg (by simp), if_neg (by omega), if_neg (by simpa using h4)]

theorem own_put4 {w : World} {base g n : Nat} {v : Value} {xs : List Value} {ty : TypeId} {a b c d : Value} (h : w.ownsRow base 48 1 v n xs) (hB : Blk w g ty #[a, b, c, d]) (hty : 48 ≠ ty) (a' b' c' d' : Value) :
    ((((w.setCell ⟨g, 0, none⟩ a').setCell ⟨g, 1, none⟩ b').setCell ⟨g, 2, none⟩ c').setCell ⟨g, 3, none⟩ d').ownsRow base 48 1 v n xs :=
  own_set (own_set (own_set (own_set h hB hty 0 a') (hB.set_ 0 a') hty 1 b') ((hB.set_ 0 a').set_ 1 b') hty 2 c') (((hB.set_ 0 a').set_ 1 b').set_ 2 c') hty 3 d'
set_option maxRecDepth 100000 in
set_option maxHeartbeats 2000000 in
theorem frNext (v : Value) (xs : List Int) (w : World) (hv : Ints .u8 w v xs) (hx : Byt xs) (hlm : xs.length ≤ 1000000) : Calls Try.prog 10 #[v] w (RetNx xs w) := by
  obtain ⟨a, cap, rfl, h1, h2⟩ := hv.shape
  have W0 := hid fun (W : World) => frWhole 0 (by omega) W
  have hZ := hid (Blk.new w 25 #[.int .i64 0, .int .i64 0, .int .u32 0, .slice none 0 0])
  unfold RetNx
  by_cases hl : xs.length < 12
  · have he := nextE_short hl
    obtain ⟨e1, e2⟩ := nx_no he (by omega)
    rw [e1, e2, he]
    clear hv he e1 e2
    go_enter Try.func10, Try.ntmps10
    go_wp2_with fail
    refine (W0.out _).mono ?_
    rintro _ _ ⟨rfl, rfl⟩
    go_wp2_with fail
    refine bodyPost_ret (results_cell_tmp_tmp rfl _ _ w.heap.size 25 _ (0, 0) _ rfl (by first | exact hZ.out | exact (hZ.out.put4 _ _ _ _)) Try.underlying25 rfl (by kernel_rfl)) rfl ?_
    exact ⟨_, rfl, World.ownsRow_nil _ _ _ _, (by repeat (first | exact Ext.refl _ | assumption | refine Ext.drew ?_ | refine Ext.drewN ?_ _ | refine Ext.alloc ?_ _ | refine Ext.trans ?_ (by assumption)))⟩
  · obtain ⟨b, off, rfl, -, hb, hcell⟩ := hv.cell (by omega)
    obtain ⟨t1, t2, t3⟩ := take9 (xs := xs) (by omega)
    have CH := hid fun (W : World) (hW : Ext w W) => frHead b off cap (xs.take 9) W t1 (by omega) ((hv.take' 9 (by omega)).ext hW) (hx.take 9)
    rw [t2, t3] at CH
    have g0 := hid fun (W : World) (hW : Ext w W) => hcell 0 (by omega) W hW
    simp only [Nat.add_zero] at g0
    have r0 := hx.get 0
    have r1 := hx.get 1
    have r2 := hx.get 2
    have r7 := hx.get 7
    have r8 := hx.get 8
    have hfm : formB xs = decide (xs.getD 0 0 = 163 ∧ xs.getD 1 0 ≠ 0 ∧ xs.getD 1 0 ≤ 4 ∧ cntF xs ≤ 9000) := rfl
    have r3 := ofB_range (cutL_byt hx 3 4)
    rw [cutL_len (by omega)] at r3
    have hcr : 0 ≤ cntF xs ∧ cntF xs < 65536 := by unfold cntF; omega
    have hnf : nextF xs = ⟨xs.getD 1 0, xs.getD 2 0, ofB (cutL xs 3 4), bodyF xs (cntF xs).toNat⟩ := rfl
    have HV := hid hv; have HX := hid hx
    obtain ⟨N, hN⟩ := Int.eq_ofNat_of_zero_le hcr.1
    have hNN : (cntF xs).toNat = N := by rw [hN]; rfl
    obtain ⟨y0, e0⟩ : ∃ y, xs.getD 0 0 = y := ⟨_, rfl⟩
    obtain ⟨y1, e1⟩ : ∃ y, xs.getD 1 0 = y := ⟨_, rfl⟩
    obtain ⟨y2, e2⟩ : ∃ y, xs.getD 2 0 = y := ⟨_, rfl⟩
    obtain ⟨y3, e3⟩ : ∃ y, ofB (cutL xs 3 4) = y := ⟨_, rfl⟩
    rw [e0] at g0 r0
    rw [e0, e1, hN] at hfm
    rw [e1, e2, e3, hN] at CH
    rw [e1, e2, e3, hNN] at hnf
    rw [e1] at r1
    rw [e2] at r2
    rw [e3] at r3
    have r3 : 0 ≤ y3 ∧ y3 < 4294967296 := r3
    have hcr : N < 65536 := by omega
    have CM := hid fun (W : World) => frMay ⟨y1, y2, y3, []⟩ (.slice none 0 0) W Ints.nil
    rw [may_head _ _ _ r2] at CM
    unfold frmV at CM CH
    have CM : Hid (∀ W, Calls Try.prog 13 #[.agg #[.int .i64 y1, .int .i64 y2, .int .u32 y3, .slice none 0 0]] W (Ret (.bool (decide (0 < y1 ∧ y1 < 5))) W)) := CM
    have CH : Hid (∀ W, Ext w W → Calls Try.prog 21 #[.slice (some ⟨b, off, none⟩) 9 cap] W (Ret (.tuple #[.agg #[.int .i64 y1, .int .i64 y2, .int .u32 y3, .slice none 0 0], .int .i64 (N : Int)]) W)) := CH
    have HFM := hid hfm; have HNF := hid hnf; have HN := hid hN; have HNN := hid hNN
    clear hv hx hcell t1 t2 t3 e0 e1 e2 e3 r7 r8 hfm hnf hN hNN
    go_enter Try.func10, Try.ntmps10
    go_wp2_with fail
    refine (W0.out _).mono ?_
    rintro _ _ ⟨rfl, rfl⟩
    go_wp2_with fail
    refine (CH.out _ (by repeat (first | exact Ext.refl _ | assumption | refine Ext.drew ?_ | refine Ext.drewN ?_ _ | refine Ext.alloc ?_ _ | refine Ext.trans ?_ (by assumption)))).mono ?_
    rintro _ w1 ⟨rfl, x1⟩
    have z1 : Ext w w1 := Ext.trans (by repeat (first | exact Ext.refl _ | assumption | refine Ext.drew ?_ | refine Ext.drewN ?_ _ | refine Ext.alloc ?_ _ | refine Ext.trans ?_ (by assumption))) x1
    have hZ1 := hid (hZ.out.ext x1)
    clear hZ x1
    have y1' : Ext w1 (w1.alloc (.cells #[.int .i64 y1, .int .i64 y2, .int .u32 y3, .slice none 0 0] 25)) := (Ext.refl w1).alloc _
    have hF := hid (Blk.new w1 25 #[.int .i64 y1, .int .i64 y2, .int .u32 y3, .slice none 0 0])
    have q0 := g0.out _ (z1.trans y1')
    by_cases hy0 : y0 = 163
    · have b0 : (y0 != 163) = false := by simp [hy0]
      by_cases hy1 : 0 < y1 ∧ y1 < 5
      · rw [decide_eq_true hy1] at CM
        by_cases hn9 : N ≤ 9000
        · have hfm : formB xs = true := by rw [HFM.out, decide_eq_true_eq]; omega
          obtain ⟨L, hL⟩ : ∃ L, 12 + 8 * N = L := ⟨_, rfl⟩
          obtain ⟨T, hT⟩ : ∃ T, 9 + 8 * N = T := ⟨_, rfl⟩
          have CW := hid fun (W : World) => frWhole N (by omega) W
          rw [hL] at CW
          have hLT : (L : Int) - 3 = (T : Int) := by omega
          by_cases hlen : xs.length < L
          · have he := nextE_long (by omega) hfm (by rw [HNN.out]; omega)
            obtain ⟨e1, e2⟩ := nx_no he (by omega)
            have E1 := hid e1; have E2 := hid e2; have HE := hid he
            clear he e1 e2 hfm hy0
            go_wp2_with fail
            refine (CM.out _).mono ?_
            rintro _ w2 ⟨rfl, x2⟩
            have hZ2 := hid (hZ1.out.ext (y1'.trans x2))
            obtain ⟨d0, d1, d2, d3⟩ := hZ2.out.at4
            have f0 := hZ2.out.frozen 0; have f1 := hZ2.out.frozen 1; have f2 := hZ2.out.frozen 2; have f3 := hZ2.out.frozen 3
            go_wp2_with fail
            refine (CW.out _).mono ?_
            rintro _ _ ⟨rfl, rfl⟩
            go_wp2_with fail
            refine bodyPost_ret (results_cell_tmp_tmp rfl _ _ w.heap.size 25 _ (0, 0) _ rfl (Blk.put4 hZ2.out _ _ _ _) Try.underlying25 rfl (by kernel_rfl)) rfl ?_
            exact ⟨_, by rw [E1.out, E2.out, HE.out]; rfl, by rw [E1.out]; exact World.ownsRow_nil _ _ _ _, (Ext.put4 (z1.trans (y1'.trans x2)) (Nat.le_refl _) _ _ _ _)⟩
          · have C3 := hid fun (W : World) (hW : Ext w W) => frNumber _ _ W ((HV.out.cut T 3 (cap - T) (by omega) (by omega) (by omega)).ext hW) (cutL_byt HX.out _ _) (by rw [cutL_len (by omega)]; omega)
            have CS := hid fun (W : World) (hW : Ext w W) => frSum _ _ W ((HV.out.take' T (by omega)).ext hW) (HX.out.take _)
            rw [sumZ_small (by rw [List.length_take]; omega)] at CS
            have hs1 := fun W => slice8_run b off xs.length cap T L (by omega) (by omega) (by omega) W
            have hs2 := fun W => slice8_run' b off xs.length cap T L (by omega) (by omega) (by omega) W
            rw [show L - T = 3 by omega] at hs1 hs2
            have r5 := ofB_range (cutL_byt HX.out T 3)
            rw [cutL_len (by omega)] at r5
            have r6 := sumL_range (xs.take T)
            obtain ⟨nb, enb⟩ : ∃ nb, ofB (cutL xs T 3) = nb := ⟨_, rfl⟩
            obtain ⟨sm, esm⟩ : ∃ sm, sumL (xs.take T) = sm := ⟨_, rfl⟩
            rw [enb] at C3 r5
            rw [esm] at CS r6
            have r5 : 0 ≤ nb ∧ nb < 16777216 := r5
            have ENB := hid enb; have ESM := hid esm; have HT := hid hT; have HL := hid hL
            have hTb : 9 ≤ T ∧ T < L ∧ L ≤ xs.length ∧ L ≤ 72012 := by omega
            have hT9 : T - 9 = N * 8 := by omega
            have HT9 := hid hT9
            have CNs := hid fun (W : World) (hW : Ext w W) => frNumbers b (off + 9) (N * 8) (cap - 9) N (cutL xs 9 (N * 8)) W rfl hn9 (cutL_len (by omega)) ((HV.out.cut 9 (N * 8) (cap - 9) (by omega) (by omega) (by omega)).ext hW) (cutL_byt HX.out _ _) (by omega)
            rw [numsB_cut (N * 8) (by omega)] at CNs
            rw [← hT9] at CNs
            have hbl : (bodyF xs N).length = N := by unfold bodyF; rw [List.length_map, List.length_range]
            have HBL := hid hbl
            by_cases hsum : nb = sm
            · have b1 : (nb != sm) = false := by simp [hsum]
              have he := nextE_fine (by omega) hfm (by rw [HNN.out]; omega) (by rw [HNN.out, hT, enb, esm]; exact hsum)
              obtain ⟨e1, e2⟩ := nx_yes he
              rw [HNF.out] at e1
              rw [HN.out, show (12 : Int) + 8 * (N : Int) = (L : Int) by omega] at e2
              have E1 := hid e1; have E2 := hid e2; have HE := hid he
              clear he e1 e2 hfm hy0 enb esm hT hL hsum hT9 hbl
              go_wp2_with fail
              refine (CM.out _).mono ?_
              rintro _ w2 ⟨rfl, x2⟩
              have x3 := y1'.trans x2
              go_wp2_with fail
              refine (CW.out _).mono ?_
              rintro _ _ ⟨rfl, rfl⟩
              go_wp2_with fail
              go_quiet (fail)
              go_wp2_with fail
              obtain ⟨w3, hw3⟩ : ∃ w3, w2.drewN nq = w3 := ⟨_, rfl⟩
              have x4 : Ext w1 w3 := hw3 ▸ x3.drewN _
              rw [hw3]
              have hF4 := hid (hF.out.ext (hw3 ▸ x2.drewN _))
              clear hw3
              refine (C3.out _ (z1.trans x4)).mono ?_
              rintro _ _ ⟨rfl, rfl⟩
              go_wp2_with fail
              refine (CS.out _ (z1.trans x4)).mono ?_
              rintro _ _ ⟨rfl, rfl⟩
              go_wp2_with fail
              refine (CNs.out _ (z1.trans x4)).mono ?_
              rintro _ w5 ⟨u5, rfl, o5, x5⟩
              have i5 := own_read o5
              obtain ⟨a5, c5, eu, hl5, -⟩ := own_nums o5
              subst eu
              have I5 := hid i5
              have x6 := x4.trans x5
              have hF5 := hid (hF4.out.ext x5)
              have hZ5 := hid (hZ1.out.ext x6)
              have hne : w.heap.size ≠ w1.heap.size := by have := hZ1.out.lt; omega
              have hF6 := hid (hF5.out.set_ 3 (.slice a5 N c5))
              have hZ6 := hid (hZ5.out.two (g' := w1.heap.size) 3 (.slice a5 N c5) hne)
              have o6 := own_set o5 hF5.out (by decide) 3 (.slice a5 N c5)
              have O6 := hid o6
              obtain ⟨d0, d1, d2, d3⟩ := hF5.out.at4
              have f3 := hF5.out.frozen 3
              obtain ⟨p0, p1, p2, p3⟩ := hZ5.out.at4
              have k0 := hZ5.out.frozen 0; have k1 := hZ5.out.frozen 1; have k2 := hZ5.out.frozen 2; have k3 := hZ5.out.frozen 3
              clear o5 i5 hl5 o6
              go_wp2_with fail
              refine bodyPost_ret (results_cell_tmp_tmp rfl _ _ w.heap.size 25 _ (0, 0) _ rfl (Blk.put4 hZ6.out _ _ _ _) Try.underlying25 rfl (by kernel_rfl)) rfl ?_
              refine ⟨.slice a5 N c5, by rw [E1.out, E2.out, HE.out]; rfl, ?_, (Ext.put4 ((z1.trans x6).setCell (p := ⟨w1.heap.size, 3, none⟩) z1.size _) (Nat.le_refl _) _ _ _ _)⟩
              rw [E1.out]
              show World.ownsRow _ _ _ _ _ (bodyF xs N).length _
              rw [HBL.out]
              exact ownsRow_low (own_put4 O6.out hZ6.out (by decide) _ _ _ _) ((z1.trans x4).size)
            · have b1 : (nb != sm) = true := by simp [hsum]
              have he := nextE_sum (by omega) hfm (by rw [HNN.out]; omega) (by rw [HNN.out, hT, enb, esm]; exact hsum)
              obtain ⟨e1, e2⟩ := nx_no he (by omega)
              have E1 := hid e1; have E2 := hid e2; have HE := hid he
              clear he e1 e2 hfm hy0 enb esm hT hL hsum hT9 hbl
              go_wp2_with fail
              refine (CM.out _).mono ?_
              rintro _ w2 ⟨rfl, x2⟩
              have x3 := y1'.trans x2
              go_wp2_with fail
              refine (CW.out _).mono ?_
              rintro _ _ ⟨rfl, rfl⟩
              go_wp2_with fail
              go_quiet (fail)
              go_wp2_with fail
              obtain ⟨w3, hw3⟩ : ∃ w3, w2.drewN nq = w3 := ⟨_, rfl⟩
              have x4 : Ext w1 w3 := hw3 ▸ x3.drewN _
              rw [hw3]
              clear hw3
              refine (C3.out _ (z1.trans x4)).mono ?_
              rintro _ _ ⟨rfl, rfl⟩
              go_wp2_with fail
              refine (CS.out _ (z1.trans x4)).mono ?_
              rintro _ _ ⟨rfl, rfl⟩
              have hZ5 := hid (hZ1.out.ext x4)
              obtain ⟨p0, p1, p2, p3⟩ := hZ5.out.at4
              have k0 := hZ5.out.frozen 0; have k1 := hZ5.out.frozen 1; have k2 := hZ5.out.frozen 2; have k3 := hZ5.out.frozen 3
              go_wp2_with fail
              refine bodyPost_ret (results_cell_tmp_tmp rfl _ _ w.heap.size 25 _ (0, 0) _ rfl (Blk.put4 hZ5.out _ _ _ _) Try.underlying25 rfl (by kernel_rfl)) rfl ?_
              exact ⟨_, by rw [E1.out, E2.out, HE.out]; rfl, by rw [E1.out]; exact World.ownsRow_nil _ _ _ _, (Ext.put4 (z1.trans x4) (Nat.le_refl _) _ _ _ _)⟩
        · have hfm : formB xs = false := by rw [HFM.out, decide_eq_false_iff_not]; omega
          have he := nextE_form (by omega) hfm
          obtain ⟨e1, e2⟩ := nx_no he (by omega)
          have E1 := hid e1; have E2 := hid e2; have HE := hid he
          clear he e1 e2 hfm hy0
          go_wp2_with fail
          refine (CM.out _).mono ?_
          rintro _ w2 ⟨rfl, x2⟩
          have hZ2 := hid (hZ1.out.ext (y1'.trans x2))
          obtain ⟨d0, d1, d2, d3⟩ := hZ2.out.at4
          have f0 := hZ2.out.frozen 0; have f1 := hZ2.out.frozen 1; have f2 := hZ2.out.frozen 2; have f3 := hZ2.out.frozen 3
          go_wp2_with fail
          refine bodyPost_ret (results_cell_tmp_tmp rfl _ _ w.heap.size 25 _ (0, 0) _ rfl (Blk.put4 hZ2.out _ _ _ _) Try.underlying25 rfl (by kernel_rfl)) rfl ?_
          exact ⟨_, by rw [E1.out, E2.out, HE.out]; rfl, by rw [E1.out]; exact World.ownsRow_nil _ _ _ _, (Ext.put4 (z1.trans (y1'.trans x2)) (Nat.le_refl _) _ _ _ _)⟩
      · have hfm : formB xs = false := by rw [HFM.out, decide_eq_false_iff_not]; omega
        have he := nextE_form (by omega) hfm
        obtain ⟨e1, e2⟩ := nx_no he (by omega)
        rw [decide_eq_false hy1] at CM
        have E1 := hid e1; have E2 := hid e2; have HE := hid he
        clear he e1 e2 hfm hy0 hy1
        go_wp2_with fail
        refine (CM.out _).mono ?_
        rintro _ w2 ⟨rfl, x2⟩
        have hZ2 := hid (hZ1.out.ext (y1'.trans x2))
        obtain ⟨d0, d1, d2, d3⟩ := hZ2.out.at4
        have f0 := hZ2.out.frozen 0; have f1 := hZ2.out.frozen 1; have f2 := hZ2.out.frozen 2; have f3 := hZ2.out.frozen 3
        go_wp2_with fail
        refine bodyPost_ret (results_cell_tmp_tmp rfl _ _ w.heap.size 25 _ (0, 0) _ rfl (Blk.put4 hZ2.out _ _ _ _) Try.underlying25 rfl (by kernel_rfl)) rfl ?_
        exact ⟨_, by rw [E1.out, E2.out, HE.out]; rfl, by rw [E1.out]; exact World.ownsRow_nil _ _ _ _, (Ext.put4 (z1.trans (y1'.trans x2)) (Nat.le_refl _) _ _ _ _)⟩
    · have b0 : (y0 != 163) = true := by simp [hy0]
      have hfm : formB xs = false := by rw [HFM.out, decide_eq_false_iff_not]; omega
      have he := nextE_form (by omega) hfm
      obtain ⟨e1, e2⟩ := nx_no he (by omega)
      have E1 := hid e1; have E2 := hid e2; have HE := hid he
      have hZ2 := hid (hZ1.out.ext y1')
      obtain ⟨d0, d1, d2, d3⟩ := hZ2.out.at4
      have f0 := hZ2.out.frozen 0; have f1 := hZ2.out.frozen 1; have f2 := hZ2.out.frozen 2; have f3 := hZ2.out.frozen 3
      clear he e1 e2 hfm hy0
      go_wp2_with fail
      refine bodyPost_ret (results_cell_tmp_tmp rfl _ _ w.heap.size 25 _ (0, 0) _ rfl (Blk.put4 hZ2.out _ _ _ _) Try.underlying25 rfl (by kernel_rfl)) rfl ?_
      exact ⟨_, by rw [E1.out, E2.out, HE.out]; rfl, by rw [E1.out]; exact World.ownsRow_nil _ _ _ _, (Ext.put4 (z1.trans y1') (Nat.le_refl _) _ _ _ _)⟩
/-- what Read tells -/
def rdE (xs : List Int) : Int := if nextE xs = 0 ∧ nxN xs < xs.length then 2 else nextE xs
def rdF (xs : List Int) : Frm := if nextE xs = 0 ∧ nxN xs < xs.length then Frm.zero else nxF xs
def RetRd (xs : List Int) (w : World) (e : Ending) (w' : World) : Prop := ∃ u, e = .returned (.tuple #[frmV (rdF xs) u, .int .i64 (rdE xs)]) ∧ w'.ownsRow w.heap.size 48 1 u (rdF xs).body.length ((rdF xs).body.map (Value.int .u64)) ∧ Ext w w'
theorem nextE_range (xs : List Int) : nextE xs = 0 ∨ nextE xs = 2 ∨ nextE xs = 3 ∨ nextE xs = 4 := by
  unfold nextE
  repeat' split
  all_goals simp
set_option maxRecDepth 100000 in
set_option maxHeartbeats 2000000 in
theorem frRead (v : Value) (xs : List Int) (w : World) (hv : Ints .u8 w v xs) (hx : Byt xs) (hlm : xs.length ≤ 1000000) : Calls Try.prog 12 #[v] w (RetRd xs w) := by
  have CN := hid fun (W : World) (hW : Ext w W) => frNext v xs W (hv.ext hW) hx hlm
  obtain ⟨a, cap, rfl, h1, h2⟩ := hv.shape
  have hr := nextE_range xs
  have hnr : -9223372036854775808 ≤ nxN xs ∧ nxN xs ≤ 9223372036854775807 := by
    unfold nxN
    split
    · rename_i h
      obtain ⟨-, h2, -, -⟩ := nextE_ok h
      unfold formB at h2
      rw [decide_eq_true_eq] at h2
      have := hx.get 7; have := hx.get 8
      have : 0 ≤ cntF xs := by unfold cntF; omega
      omega
    · omega
  have hZ := hid (Blk.new w 25 #[.int .i64 0, .int .i64 0, .int .u32 0, .slice none 0 0])
  unfold RetNx at CN
  unfold RetRd
  obtain ⟨E, eE⟩ : ∃ E, nextE xs = E := ⟨_, rfl⟩
  obtain ⟨n, en⟩ : ∃ n, nxN xs = n := ⟨_, rfl⟩
  obtain ⟨⟨k, r, m, l⟩, eF⟩ : ∃ F, nxF xs = F := ⟨_, rfl⟩
  rw [eE, en, eF] at CN
  rw [en] at hnr
  unfold frmV at CN
  have hE : rdE xs = if E = 0 ∧ n < xs.length then 2 else E := by unfold rdE; rw [eE, en]
  have hF : rdF xs = if E = 0 ∧ n < xs.length then Frm.zero else ⟨k, r, m, l⟩ := by unfold rdF; rw [eE, en, eF]
  rw [eE] at hr
  clear hv hx eE en eF
  have CN : Hid (∀ W, Ext w W → Calls Try.prog 10 #[.slice a xs.length cap] W fun e w' => ∃ u, e = .returned (.tuple #[.agg #[.int .i64 k, .int .i64 r, .int .u32 m, u], .int .i64 n, .int .i64 E]) ∧ w'.ownsRow W.heap.size 48 1 u l.length (l.map (Value.int .u64)) ∧ Ext W w') := CN
  by_cases hT : E = 0 ∧ n < xs.length
  · rw [if_pos hT] at hE hF
    obtain ⟨rfl, hlt⟩ := hT
    have HE := hid hE; have HF := hid hF
    clear hE hF
    go_enter Try.func12, Try.ntmps12
    go_wp2_with fail
    refine (CN.out _ (by repeat (first | exact Ext.refl _ | assumption | refine Ext.drew ?_ | refine Ext.drewN ?_ _ | refine Ext.alloc ?_ _ | refine Ext.trans ?_ (by assumption)))).mono ?_
    rintro _ w1 ⟨u, rfl, o1, x1⟩
    obtain ⟨au, cu, eu, -, -⟩ := own_nums o1
    subst eu
    have z1 : Ext w w1 := Ext.trans (by repeat (first | exact Ext.refl _ | assumption | refine Ext.drew ?_ | refine Ext.drewN ?_ _ | refine Ext.alloc ?_ _ | refine Ext.trans ?_ (by assumption))) x1
    have hZ1 := hid ((hZ.out.ext x1).ext ((Ext.refl _).alloc (.cells #[.int .i64 k, .int .i64 r, .int .u32 m, .slice au l.length cu] 25)))
    obtain ⟨p0, p1, p2, p3⟩ := hZ1.out.at4
    have k0 := hZ1.out.frozen 0; have k1 := hZ1.out.frozen 1; have k2 := hZ1.out.frozen 2; have k3 := hZ1.out.frozen 3
    clear o1
    go_wp2_with fail
    refine bodyPost_ret (results_cell_tmp rfl _ _ w.heap.size 25 _ (0, 0) _ rfl (Blk.put4 hZ1.out _ _ _ _) Try.underlying25 rfl (by kernel_rfl)) rfl ?_
    exact ⟨_, by rw [HE.out, HF.out]; rfl, by rw [HF.out]; exact World.ownsRow_nil _ _ _ _, (Ext.put4 (z1.alloc _) (Nat.le_refl _) _ _ _ _)⟩
  · rw [if_neg hT] at hE hF
    have HE := hid hE; have HF := hid hF
    clear hE hF
    obtain ⟨B, eB⟩ : ∃ B, (E == 0) = B := ⟨_, rfl⟩
    have hTB : B = true → ¬ n < (xs.length : Int) := fun h h2 => hT ⟨by rw [h] at eB; simpa using eB, h2⟩
    have EB := hid eB
    clear hT hr eB
    cases B
    · clear hTB
      have eB := EB.out
      go_enter Try.func12, Try.ntmps12
      go_wp2_with fail
      refine (CN.out _ (by repeat (first | exact Ext.refl _ | assumption | refine Ext.drew ?_ | refine Ext.drewN ?_ _ | refine Ext.alloc ?_ _ | refine Ext.trans ?_ (by assumption)))).mono ?_
      rintro _ w1 ⟨u, rfl, o1, x1⟩
      obtain ⟨au, cu, eu, -, -⟩ := own_nums o1
      subst eu
      have z1 : Ext w w1 := Ext.trans (by repeat (first | exact Ext.refl _ | assumption | refine Ext.drew ?_ | refine Ext.drewN ?_ _ | refine Ext.alloc ?_ _ | refine Ext.trans ?_ (by assumption))) x1
      have hZ1 := hid ((hZ.out.ext x1).ext ((Ext.refl _).alloc (.cells #[.int .i64 k, .int .i64 r, .int .u32 m, .slice au l.length cu] 25)))
      obtain ⟨p0, p1, p2, p3⟩ := hZ1.out.at4
      have k0 := hZ1.out.frozen 0; have k1 := hZ1.out.frozen 1; have k2 := hZ1.out.frozen 2; have k3 := hZ1.out.frozen 3
      have O1 := hid (ownsRow_low (o1.alloc (.cells #[.int .i64 k, .int .i64 r, .int .u32 m, .slice au l.length cu] 25)) (show w.heap.size ≤ _ by simp))
      clear o1
      go_wp2_with fail
      refine bodyPost_ret (results_cell_tmp rfl _ _ w.heap.size 25 _ (0, 0) _ rfl (Blk.put4 hZ1.out _ _ _ _) Try.underlying25 rfl (by kernel_rfl)) rfl ?_
      exact ⟨.slice au l.length cu, by rw [HE.out, HF.out]; rfl, by rw [HF.out]; exact own_put4 O1.out hZ1.out (by decide) _ _ _ _, (Ext.put4 (z1.alloc _) (Nat.le_refl _) _ _ _ _)⟩
    · have hnl := hTB rfl
      clear hTB
      have eB := EB.out
      go_enter Try.func12, Try.ntmps12
      go_wp2_with fail
      refine (CN.out _ (by repeat (first | exact Ext.refl _ | assumption | refine Ext.drew ?_ | refine Ext.drewN ?_ _ | refine Ext.alloc ?_ _ | refine Ext.trans ?_ (by assumption)))).mono ?_
      rintro _ w1 ⟨u, rfl, o1, x1⟩
      obtain ⟨au, cu, eu, -, -⟩ := own_nums o1
      subst eu
      have z1 : Ext w w1 := Ext.trans (by repeat (first | exact Ext.refl _ | assumption | refine Ext.drew ?_ | refine Ext.drewN ?_ _ | refine Ext.alloc ?_ _ | refine Ext.trans ?_ (by assumption))) x1
      have hZ1 := hid ((hZ.out.ext x1).ext ((Ext.refl _).alloc (.cells #[.int .i64 k, .int .i64 r, .int .u32 m, .slice au l.length cu] 25)))
      obtain ⟨p0, p1, p2, p3⟩ := hZ1.out.at4
      have k0 := hZ1.out.frozen 0; have k1 := hZ1.out.frozen 1; have k2 := hZ1.out.frozen 2; have k3 := hZ1.out.frozen 3
      have O1 := hid (ownsRow_low (o1.alloc (.cells #[.int .i64 k, .int .i64 r, .int .u32 m, .slice au l.length cu] 25)) (show w.heap.size ≤ _ by simp))
      clear o1
      go_wp2_with fail
      refine bodyPost_ret (results_cell_tmp rfl _ _ w.heap.size 25 _ (0, 0) _ rfl (Blk.put4 hZ1.out _ _ _ _) Try.underlying25 rfl (by kernel_rfl)) rfl ?_
      exact ⟨.slice au l.length cu, by rw [HE.out, HF.out]; rfl, by rw [HF.out]; exact own_put4 O1.out hZ1.out (by decide) _ _ _ _, (Ext.put4 (z1.alloc _) (Nat.le_refl _) _ _ _ _)⟩
end Go.Proofs.Yticabjdcegimcaa
