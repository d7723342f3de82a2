/- The document's own answer to Next. -/
import Derived.Test.YticabjdcegimcaaFr7
namespace Go.Proofs.Yticabjdcegimcaa
open Go.RowKit Go.Maps

set_option maxRecDepth 100000 in
set_option maxHeartbeats 2000000 in
theorem r11Next (v : Value) (xs : List Int) (w : World) (hv : Ints .u8 w v xs) (hx : Byt xs) (hlm : xs.length ≤ 1000000) : Calls Try.prog 11 #[v] w (RetNx xs w) := by
  obtain ⟨i0, hi, hz0, hz1, hz2⟩ := info_parts info_u64p
  obtain ⟨a, cap, rfl, h1, h2⟩ := hv.shape
  have hZ := hid (Blk.new w 25 #[.int .i64 0, .int .i64 0, .int .u32 0, .slice none 0 0])
  unfold RetNx
  by_cases hl : xs.length < 12
  · have he := nextE_short hl
    obtain ⟨e1, e2⟩ := nx_no he (by omega)
    rw [e1, e2, he]
    clear hv he e1 e2
    go_enter Try.func11, Try.ntmps11
    go_wp2_with fail
    refine bodyPost_ret (results_cell_tmp_tmp rfl _ _ w.heap.size 25 _ (0, 0) _ rfl hZ.out Try.underlying25 rfl (by kernel_rfl)) rfl ?_
    exact ⟨_, rfl, World.ownsRow_nil _ _ _ _, (by repeat (first | exact Ext.refl _ | assumption | refine Ext.drew ?_ | refine Ext.drewN ?_ _ | refine Ext.alloc ?_ _ | refine Ext.trans ?_ (by assumption)))⟩
  · obtain ⟨b, off, rfl, -, hb, hcell⟩ := hv.cell (by omega)
    have g0 := hid fun (W : World) (hW : Ext w W) => hcell 0 (by omega) W hW
    simp only [Nat.add_zero] at g0
    have g1 := hid fun (W : World) (hW : Ext w W) => hcell 1 (by omega) W hW
    have g2 := hid fun (W : World) (hW : Ext w W) => hcell 2 (by omega) W hW
    have g7 := hid fun (W : World) (hW : Ext w W) => hcell 7 (by omega) W hW
    have g8 := hid fun (W : World) (hW : Ext w W) => hcell 8 (by omega) W hW
    have r0 := hx.get 0
    have r1 := hx.get 1
    have r2 := hx.get 2
    have r7 := hx.get 7
    have r8 := hx.get 8
    have hfm : formB xs = decide (xs.getD 0 0 = 163 ∧ xs.getD 1 0 ≠ 0 ∧ xs.getD 1 0 ≤ 4 ∧ cntF xs ≤ 9000) := rfl
    have r3 := ofB_range (cutL_byt hx 3 4)
    rw [cutL_len (by omega)] at r3
    have hce : cntF xs = xs.getD 7 0 * 256 + xs.getD 8 0 := rfl
    have hcr : 0 ≤ cntF xs ∧ cntF xs < 65536 := by omega
    have hnf : nextF xs = ⟨xs.getD 1 0, xs.getD 2 0, ofB (cutL xs 3 4), bodyF xs (cntF xs).toNat⟩ := rfl
    have HV := hid hv; have HX := hid hx
    obtain ⟨N, hN⟩ := Int.eq_ofNat_of_zero_le hcr.1
    have hNN : (cntF xs).toNat = N := by rw [hN]; rfl
    obtain ⟨y0, e0⟩ : ∃ y, xs.getD 0 0 = y := ⟨_, rfl⟩
    obtain ⟨y1, e1⟩ : ∃ y, xs.getD 1 0 = y := ⟨_, rfl⟩
    obtain ⟨y2, e2⟩ : ∃ y, xs.getD 2 0 = y := ⟨_, rfl⟩
    obtain ⟨y3, e3⟩ : ∃ y, ofB (cutL xs 3 4) = y := ⟨_, rfl⟩
    obtain ⟨y7, e7⟩ : ∃ y, xs.getD 7 0 = y := ⟨_, rfl⟩
    obtain ⟨y8, e8⟩ : ∃ y, xs.getD 8 0 = y := ⟨_, rfl⟩
    rw [e7, e8, hN] at hce
    rw [e0] at g0 r0
    rw [e0, e1, hN] at hfm
    rw [e1, e2, e3, hNN] at hnf
    rw [e1] at g1 r1
    rw [e2] at g2 r2
    rw [e3] at r3
    rw [e7] at g7 r7
    rw [e8] at g8 r8
    have C4 := hid fun (W : World) (hW : Ext w W) => r11Of 4 _ _ W (cutL_len (by omega)) ((HV.out.cut 3 4 (cap - 3) (by omega) (by omega) (by omega)).ext hW) (cutL_byt HX.out 3 4) (by omega)
    rw [e3] at C4
    have r3 : 0 ≤ y3 ∧ y3 < 4294967296 := r3
    have hcr : N < 65536 := by omega
    replace hce : y7 * 256 + y8 = (N : Int) := hce.symm
    have HFM := hid hfm; have HNF := hid hnf; have HN := hid hN; have HNN := hid hNN
    obtain ⟨w1, hw1⟩ : ∃ w1, w.alloc (.cells #[.int .i64 0, .int .i64 0, .int .u32 0, .slice none 0 0] 25) = w1 := ⟨_, rfl⟩
    have x1 : Ext w w1 := hw1 ▸ (Ext.refl w).alloc _
    have q7 := fun n => g7.out (w1.drewN n) (x1.drewN n)
    have q8 := fun n => g8.out (w1.drewN n) (x1.drewN n)
    have l12 : 12 ≤ xs.length := by omega
    rw [hw1] at hZ
    clear hv hx hcell e0 e1 e2 e3 e7 e8 hfm hnf hN hNN g7 g8
    go_enter Try.func11, Try.ntmps11
    go_wp2_with fail
    have HCE := hid hce
    clear hw1 hce
    go_quiet (fail)
    rw [HCE.out]
    obtain ⟨w2, hw2⟩ : ∃ w2, w1.drewN nq = w2 := ⟨_, rfl⟩
    have z2 : Ext w1 w2 := hw2 ▸ (Ext.refl w1).drewN _
    have hZ2 := hid (hZ.out.ext z2)
    have x2 := x1.trans z2
    rw [hw2]
    clear hw2 z2 hZ q7 q8
    have q0 := g0.out _ x2
    have q1 := g1.out _ x2
    obtain ⟨d0, d1, d2, d3⟩ := hZ2.out.at4
    have f0 := hZ2.out.frozen 0; have f1 := hZ2.out.frozen 1; have f2 := hZ2.out.frozen 2; have f3 := hZ2.out.frozen 3
    obtain ⟨B0, eB0⟩ : ∃ B, (y0 != 163) = B := ⟨_, rfl⟩
    obtain ⟨B1, eB1⟩ : ∃ B, (y1 == 0) = B := ⟨_, rfl⟩
    have HB0 := hid eB0; have HB1 := hid eB1
    clear eB0 eB1
    have hform : formB xs = (!B0 && (!B1 && (decide (y1 ≤ 4) && decide (N ≤ 9000)))) := by
      rw [HFM.out, ← HB0.out, ← HB1.out, Bool.eq_iff_iff]
      simp
      intros; omega
    have HFO := hid hform
    clear hform
    cases B0 with
    | true =>
      have eB0 := HB0.out
      have he := nextE_form (by omega) HFO.out
      obtain ⟨e1, e2⟩ := nx_no he (by omega)
      have E1 := hid e1; have E2 := hid e2; have HE := hid he
      clear he e1 e2
      go_wp2_with fail
      refine bodyPost_ret (results_cell_tmp_tmp rfl _ _ w.heap.size 25 _ (0, 0) _ rfl (Blk.put4 hZ2.out _ _ _ _) Try.underlying25 rfl (by kernel_rfl)) rfl ?_
      exact ⟨_, by rw [E1.out, E2.out, HE.out]; rfl, by rw [E1.out]; exact World.ownsRow_nil _ _ _ _, Ext.put4 x2 (Nat.le_refl _) _ _ _ _⟩
    | false =>
    cases B1 with
    | true =>
      have eB0 := HB0.out
      have eB1 := HB1.out
      have he := nextE_form (by omega) HFO.out
      obtain ⟨e1, e2⟩ := nx_no he (by omega)
      have E1 := hid e1; have E2 := hid e2; have HE := hid he
      clear he e1 e2
      go_wp2_with fail
      refine bodyPost_ret (results_cell_tmp_tmp rfl _ _ w.heap.size 25 _ (0, 0) _ rfl (Blk.put4 hZ2.out _ _ _ _) Try.underlying25 rfl (by kernel_rfl)) rfl ?_
      exact ⟨_, by rw [E1.out, E2.out, HE.out]; rfl, by rw [E1.out]; exact World.ownsRow_nil _ _ _ _, Ext.put4 x2 (Nat.le_refl _) _ _ _ _⟩
    | false =>
    have eB0 := HB0.out
    have eB1 := HB1.out
    by_cases hy4 : y1 ≤ 4
    · by_cases hn9 : N ≤ 9000
      · have hfm : formB xs = true := HFO.out.trans (by simp; omega)
        obtain ⟨M, hM⟩ : ∃ M, 8 * N = M := ⟨_, rfl⟩
        obtain ⟨L, hL⟩ : ∃ L, 12 + M = L := ⟨_, rfl⟩
        obtain ⟨T, hT⟩ : ∃ T, 9 + M = T := ⟨_, rfl⟩
        have eM : (8 : Int) * (N : Int) = (M : Int) := by omega
        have eL : (12 : Int) + (M : Int) = (L : Int) := by omega
        have eT : (9 : Int) + (M : Int) = (T : Int) := by omega
        have hM7 : M ≤ 72000 := by omega
        have hTL : T + 3 = L := by omega
        by_cases hlen : xs.length < L
        · have he := nextE_long (by omega) hfm (by rw [HNN.out]; omega)
          obtain ⟨e1, e2⟩ := nx_no he (by omega)
          have E1 := hid e1; have E2 := hid e2; have HE := hid he
          clear he e1 e2 hM hL hT hTL
          go_wp2_with fail
          refine bodyPost_ret (results_cell_tmp_tmp rfl _ _ w.heap.size 25 _ (0, 0) _ rfl (Blk.put4 hZ2.out _ _ _ _) Try.underlying25 rfl (by kernel_rfl)) rfl ?_
          exact ⟨_, by rw [E1.out, E2.out, HE.out]; rfl, by rw [E1.out]; exact World.ownsRow_nil _ _ _ _, Ext.put4 x2 (Nat.le_refl _) _ _ _ _⟩
        · have C3 := hid fun (W : World) (hW : Ext w W) => r11Of 3 _ _ W (cutL_len (by omega)) ((HV.out.cut T 3 (cap - T) (by omega) (by omega) (by omega)).ext hW) (cutL_byt HX.out T 3) (by omega)
          have CS := hid fun (W : World) (hW : Ext w W) => r11Sum _ _ W ((HV.out.take' T (by omega)).ext hW) (HX.out.take _)
          rw [sumZ_small (by rw [List.length_take]; omega)] at CS
          have hs1 := fun W => slice8_run b off xs.length cap T L (by omega) (by omega) (by omega) W
          have hs2 := fun W => slice8_run' b off xs.length cap T L (by omega) (by omega) (by omega) W
          rw [show L - T = 3 by omega] at hs1 hs2
          have r5 := ofB_range (cutL_byt HX.out T 3)
          rw [cutL_len (by omega)] at r5
          have r6 := sumL_range (xs.take T)
          obtain ⟨nb, enb⟩ : ∃ nb, ofB (cutL xs T 3) = nb := ⟨_, rfl⟩
          obtain ⟨sm, esm⟩ : ∃ sm, sumL (xs.take T) = sm := ⟨_, rfl⟩
          rw [enb] at C3 r5
          rw [esm] at CS r6
          have r5 : 0 ≤ nb ∧ nb < 16777216 := r5
          have ENB := hid enb; have ESM := hid esm; have HT := hid hT; have HL := hid hL; have HM := hid hM
          have hTb : 9 ≤ T ∧ T ≤ L ∧ L ≤ xs.length ∧ L ≤ 72012 := by omega
          have hTcap : T ≤ cap := by omega
          by_cases hsum : nb = sm
          · have b1 : (nb != sm) = false := by simp [hsum]
            have he := nextE_fine (by omega) hfm (by rw [HNN.out]; omega) (by rw [HNN.out, show 9 + 8 * N = T by omega, enb, esm]; exact hsum)
            obtain ⟨e1, e2⟩ := nx_yes he
            rw [HNF.out] at e1
            rw [HN.out, show (12 : Int) + 8 * (N : Int) = (L : Int) by omega] at e2
            have E1 := hid e1; have E2 := hid e2; have HE := hid he
            clear he e1 e2 hM hL hT hTL enb esm hsum
            go_wp2_with fail
            go_quiet ((first | (go_at_call 24; first | exact quiet_d (C3.out _ (x2.drewN _)) | exact quiet_add_d (C3.out _ (x2.drewN _))) | (go_at_call 16; first | exact quiet_l (CS.out _ (x2.drewN _)) | exact quiet_add_l (CS.out _ (x2.drewN _)))))
            obtain ⟨w3, hw3⟩ : ∃ w3, w2.drewN nq = w3 := ⟨_, rfl⟩
            have z3 : Ext w2 w3 := hw3 ▸ (Ext.refl w2).drewN _
            have hZ3 := hid (hZ2.out.ext z3)
            have x3 := x2.trans z3
            rw [hw3]
            clear hw3 z3 hZ2 d0 d1 d2 d3 f0 f1 f2 f3 q0 q1
            obtain ⟨d0, d1, d2, d3⟩ := hZ3.out.at4
            have f0 := hZ3.out.frozen 0; have f1 := hZ3.out.frozen 1; have f2 := hZ3.out.frozen 2; have f3 := hZ3.out.frozen 3
            go_wp2_with fail
            have hcap12 : 12 ≤ cap := by omega
            have hmx : Try.prog.follows .mixedOrders = true := by kernel_rfl
            have hs3 := fun W => slice8_run b off xs.length cap 3 7 (by omega) (by omega) (by omega) W
            have hs4 := fun W => slice8_run' b off xs.length cap 3 7 (by omega) (by omega) (by omega) W
            clear d0 d1 d2 d3 f0 f1 f2 f3 hs1 hs2 C3 CS
            go_cut [6] from 68 to 80 (fun p w' => ∃ g, p = .pointer (some ⟨g, 0, none⟩) ∧ Blk w' g 25 #[.int .i64 y1, .int .i64 y2, .int .u32 y3, .slice none 0 0] ∧ Ext w3 w' ∧ w3.heap.size ≤ g)
            case first =>
              refine wp_region_held_drew (S := fun W' => Ext w3 W') hmx ((Ext.refl w3).drew) (fun hHeld => ?_)
              refine wpAnyH_take (i := 0) (v := .slice (some ⟨b, off, none⟩) xs.length cap) rfl (by kernel_rfl) (by kernel_rfl) (by kernel_rfl) (fun _ _ _ h => h) (Or.inl ⟨by rfl, ?_⟩) hHeld ?_
              · intro W' hSw
                have q1 := g1.out _ (x3.trans hSw)
                have q2 := g2.out _ (x3.trans hSw)
                go_simp
                try first | exact wr_i (by omega) | exact wr_u (by omega) | (intro h; exfalso; omega) | (rw [if_pos (by omega), if_neg (by omega)])
              refine wpAnyH_take (i := 1) (v := .pointer (some ⟨b, off + 1, none⟩)) rfl (by kernel_rfl) (by kernel_rfl) (by kernel_rfl) (fun _ _ _ h => h) (Or.inl ⟨by rfl, ?_⟩) hHeld ?_
              · intro W' hSw
                have q1 := g1.out _ (x3.trans hSw)
                have q2 := g2.out _ (x3.trans hSw)
                go_simp
                try first | exact wr_i (by omega) | exact wr_u (by omega) | (intro h; exfalso; omega) | (rw [if_pos (by omega), if_neg (by omega)])
              refine wpAnyH_take (i := 2) (v := .int .u8 y1) rfl (by kernel_rfl) (by kernel_rfl) (by kernel_rfl) (fun _ _ _ h => h) (Or.inl ⟨by rfl, ?_⟩) hHeld ?_
              · intro W' hSw
                have q1 := g1.out _ (x3.trans hSw)
                have q2 := g2.out _ (x3.trans hSw)
                go_simp
                try first | exact wr_i (by omega) | exact wr_u (by omega) | (intro h; exfalso; omega) | (rw [if_pos (by omega), if_neg (by omega)])
              refine wpAnyH_take (i := 3) (v := .int .i64 y1) rfl (by kernel_rfl) (by kernel_rfl) (by kernel_rfl) (fun _ _ _ h => h) (Or.inl ⟨by rfl, ?_⟩) hHeld ?_
              · intro W' hSw
                have q1 := g1.out _ (x3.trans hSw)
                have q2 := g2.out _ (x3.trans hSw)
                go_simp
                try first | exact wr_i (by omega) | exact wr_u (by omega) | (intro h; exfalso; omega) | (rw [if_pos (by omega), if_neg (by omega)])
              refine wpAnyH_take (i := 4) (v := .slice (some ⟨b, off, none⟩) xs.length cap) rfl (by kernel_rfl) (by kernel_rfl) (by kernel_rfl) (fun _ _ _ h => h) (Or.inl ⟨by rfl, ?_⟩) hHeld ?_
              · intro W' hSw
                have q1 := g1.out _ (x3.trans hSw)
                have q2 := g2.out _ (x3.trans hSw)
                go_simp
                try first | exact wr_i (by omega) | exact wr_u (by omega) | (intro h; exfalso; omega) | (rw [if_pos (by omega), if_neg (by omega)])
              refine wpAnyH_take (i := 5) (v := .pointer (some ⟨b, off + 2, none⟩)) rfl (by kernel_rfl) (by kernel_rfl) (by kernel_rfl) (fun _ _ _ h => h) (Or.inl ⟨by rfl, ?_⟩) hHeld ?_
              · intro W' hSw
                have q1 := g1.out _ (x3.trans hSw)
                have q2 := g2.out _ (x3.trans hSw)
                go_simp
                try first | exact wr_i (by omega) | exact wr_u (by omega) | (intro h; exfalso; omega) | (rw [if_pos (by omega), if_neg (by omega)])
              refine wpAnyH_take (i := 6) (v := .int .u8 y2) rfl (by kernel_rfl) (by kernel_rfl) (by kernel_rfl) (fun _ _ _ h => h) (Or.inl ⟨by rfl, ?_⟩) hHeld ?_
              · intro W' hSw
                have q1 := g1.out _ (x3.trans hSw)
                have q2 := g2.out _ (x3.trans hSw)
                go_simp
                try first | exact wr_i (by omega) | exact wr_u (by omega) | (intro h; exfalso; omega) | (rw [if_pos (by omega), if_neg (by omega)])
              refine wpAnyH_take (i := 7) (v := .int .i64 y2) rfl (by kernel_rfl) (by kernel_rfl) (by kernel_rfl) (fun _ _ _ h => h) (Or.inl ⟨by rfl, ?_⟩) hHeld ?_
              · intro W' hSw
                have q1 := g1.out _ (x3.trans hSw)
                have q2 := g2.out _ (x3.trans hSw)
                go_simp
                try first | exact wr_i (by omega) | exact wr_u (by omega) | (intro h; exfalso; omega) | (rw [if_pos (by omega), if_neg (by omega)])
              refine wpAnyH_take (i := 8) (v := .slice (some ⟨b, off, none⟩) xs.length cap) rfl (by kernel_rfl) (by kernel_rfl) (by kernel_rfl) (fun _ _ _ h => h) (Or.inl ⟨by rfl, ?_⟩) hHeld ?_
              · intro W' hSw
                have q1 := g1.out _ (x3.trans hSw)
                have q2 := g2.out _ (x3.trans hSw)
                go_simp
                try first | exact wr_i (by omega) | exact wr_u (by omega) | (intro h; exfalso; omega) | (rw [if_pos (by omega), if_neg (by omega)])
              refine wpAnyH_take (i := 9) (v := .slice (some ⟨b, off + 3, none⟩) 4 (cap - 3)) rfl (by kernel_rfl) (by kernel_rfl) (by kernel_rfl) (fun _ _ _ h => h) (Or.inl ⟨by rfl, ?_⟩) hHeld ?_
              · intro W' hSw
                have q1 := g1.out _ (x3.trans hSw)
                have q2 := g2.out _ (x3.trans hSw)
                go_simp
                try first | exact wr_i (by omega) | exact wr_u (by omega) | (intro h; exfalso; omega) | (rw [if_pos (by omega), if_neg (by omega)])
              refine wpAnyH_ready (rs := [10, 13]) (by kernel_rfl) (by simp) ?_
              refine AllReadyH.cons rfl (fun K hK => ?_) ?_
              · go_simp
                go_wp2_with fail
                refine (C4.out _ (x3.trans hHeld)).mono ?_
                rintro _ w5 ⟨rfl, hd5⟩
                have h5 := hHeld.trans hd5.ext
                go_wp2_with fail
                refine hK.out _ _ h5 (fun hHeld => ?_)
                clear hK K
                refine wpAnyH_take (i := 11) (v := .int .u32 y3) rfl (by kernel_rfl) (by kernel_rfl) (by kernel_rfl) (fun _ _ _ h => h) (Or.inl ⟨by rfl, ?_⟩) hHeld ?_
                · intro W' hSw
                  have q1 := g1.out _ (x3.trans hSw)
                  have q2 := g2.out _ (x3.trans hSw)
                  go_simp
                  try first | exact wr_i (by omega) | exact wr_u (by omega) | (intro h; exfalso; omega) | (rw [if_pos (by omega), if_neg (by omega)])
                refine wpAnyH_take (i := 12) (v := .agg #[.int .i64 y1, .int .i64 y2, .int .u32 y3, .slice none 0 0]) rfl (by kernel_rfl) (by kernel_rfl) (by kernel_rfl) (fun _ _ _ h => h) (Or.inl ⟨by rfl, ?_⟩) hHeld ?_
                · intro W' hSw
                  have q1 := g1.out _ (x3.trans hSw)
                  have q2 := g2.out _ (x3.trans hSw)
                  go_simp
                  try first | exact wr_i (by omega) | exact wr_u (by omega) | (intro h; exfalso; omega) | (rw [if_pos (by omega), if_neg (by omega)])
                refine held_step 13 (by kernel_rfl) rfl (fun K hK => ?_)
                go_simp
                refine hK.out _ _ (h5.alloc _) (fun hHeld => ?_)
                clear hK K
                refine held_step 14 (by kernel_rfl) rfl (fun K hK => ?_)
                go_simp
                refine hK.out _ _ (h5.alloc _) (fun hHeld => ?_)
                clear hK K
                refine wpAnyH_done (by kernel_rfl) ?_ _
                go_wp2_with fail
                go_meet
                exact ⟨_, rfl, Blk.new _ _ _, hHeld, h5.size⟩

              refine AllReadyH.cons rfl (fun K hK => ?_) ?_
              · go_simp
                refine hK.out _ _ ((Ext.refl w3).alloc (.cells #[.int .i64 0, .int .i64 0, .int .u32 0, .slice none 0 0] 25)).drew (fun hHeld => ?_)
                clear hK K
                refine held_step 10 (by kernel_rfl) rfl (fun K hK => ?_)
                go_simp
                go_wp2_with fail
                refine (C4.out _ (x3.trans hHeld)).mono ?_
                rintro _ w5 ⟨rfl, hd5⟩
                have h5 := hHeld.trans hd5.ext
                have HG := hid ((Blk.new w3 25 #[.int .i64 0, .int .i64 0, .int .u32 0, .slice none 0 0]).ext (((Ext.refl (w3.alloc (.cells #[.int .i64 0, .int .i64 0, .int .u32 0, .slice none 0 0] 25))).drew).trans hd5.ext))
                obtain ⟨p0, p1, p2, p3⟩ := HG.out.at4
                have k0 := HG.out.frozen 0; have k1 := HG.out.frozen 1; have k2 := HG.out.frozen 2; have k3 := HG.out.frozen 3
                go_wp2_with fail
                refine hK.out _ _ h5 (fun hHeld => ?_)
                clear hK K
                refine wpAnyH_take (i := 11) (v := .int .u32 y3) rfl (by kernel_rfl) (by kernel_rfl) (by kernel_rfl) (fun _ _ _ h => h) (Or.inl ⟨by rfl, ?_⟩) hHeld ?_
                · intro W' hSw
                  have q1 := g1.out _ (x3.trans hSw)
                  have q2 := g2.out _ (x3.trans hSw)
                  go_simp
                  try first | exact wr_i (by omega) | exact wr_u (by omega) | (intro h; exfalso; omega) | (rw [if_pos (by omega), if_neg (by omega)])
                refine wpAnyH_take (i := 12) (v := .agg #[.int .i64 y1, .int .i64 y2, .int .u32 y3, .slice none 0 0]) rfl (by kernel_rfl) (by kernel_rfl) (by kernel_rfl) (fun _ _ _ h => h) (Or.inl ⟨by rfl, ?_⟩) hHeld ?_
                · intro W' hSw
                  have q1 := g1.out _ (x3.trans hSw)
                  have q2 := g2.out _ (x3.trans hSw)
                  go_simp
                  try first | exact wr_i (by omega) | exact wr_u (by omega) | (intro h; exfalso; omega) | (rw [if_pos (by omega), if_neg (by omega)])
                refine held_step 14 (by kernel_rfl) rfl (fun K hK => ?_)
                go_simp
                refine hK.out _ _ (Ext.put4 h5 (Nat.le_refl _) _ _ _ _) (fun hHeld => ?_)
                clear hK K
                refine wpAnyH_done (by kernel_rfl) ?_ _
                go_wp2_with fail
                go_meet
                exact ⟨_, rfl, HG.out.put4 _ _ _ _, hHeld, Nat.le_refl _⟩

              exact AllReadyH.nil
            case rest =>
              obtain ⟨g, rfl, hG, x4, hg⟩ := hcut
              have hZ4 := hid (hZ3.out.ext x4)
              have hgl := hG.lt
              have hlen8 : ∀ j, j < N → 17 + 8 * j ≤ xs.length := fun j hj => by have := HM.out; have := HT.out; omega
              have hG := hid hG; have HM7 := hid hM7; have HEM := hid eM; have HEL := hid eL
              clear eM eL eT hM7 hlen hs3 hs4 r0 r1 r2 r3 r5 r6 r7 r8 b1 hy4 eB0 eB1 g0 g1 g2 C4
              go_wp2_with fail
              go_loopw [7] (fun i wr => ∃ (j : Nat) (rv : Value), i = .int .i64 j ∧ j ≤ N ∧ Hid (Blk wr g 25 #[.int .i64 y1, .int .i64 y2, .int .u32 y3, rv]) ∧ Hid (wr.ownsRow wc.heap.size 48 1 rv j ((bodyF xs j).map (Value.int .u64))) ∧ Ext w3 wr ∧ Hid (wc.heap.size ≤ wr.heap.size)) (fun i _ => N - (intOf i).toNat)
              case atStart => exact ⟨0, .slice none 0 0, rfl, Nat.zero_le _, hG, hid (World.ownsRow_nil _ _ _ _), x4, hid (Nat.le_refl _)⟩
              case round =>
                obtain ⟨j, rv, rfl, hj, HB, HO, h3r, hbs⟩ := hrel
                rename World => wr
                have hxw : Ext w wr := x3.trans h3r
                obtain ⟨ar, cr, er, -, -⟩ := own_nums HO.out
                subst er
                by_cases hlt : j < N
                · have hbnd := hlen8 j hlt
                  obtain ⟨mj, emj⟩ : ∃ mj, 8 * j = mj := ⟨_, rfl⟩
                  obtain ⟨tj, etj⟩ : ∃ tj, 9 + mj = tj := ⟨_, rfl⟩
                  obtain ⟨ej, eej⟩ : ∃ ej, 17 + mj = ej := ⟨_, rfl⟩
                  have q1 : (8 : Int) * (j : Int) = (mj : Int) := by omega
                  have q2 : (9 : Int) + (mj : Int) = (tj : Int) := by omega
                  have q3 : (17 : Int) + (mj : Int) = (ej : Int) := by omega
                  have w1' : IntKind.i64.wrap (mj : Int) = (mj : Int) := IntWalk.i64_in _ (by omega)
                  have w2' : IntKind.i64.wrap (tj : Int) = (tj : Int) := IntWalk.i64_in _ (by omega)
                  have w3' : IntKind.i64.wrap (ej : Int) = (ej : Int) := IntWalk.i64_in _ (by omega)
                  have hte : ej = tj + 8 := by omega
                  have hsl := fun W => slice8_run b off xs.length cap tj ej (by omega) (by omega) (by omega) W
                  have hsl' := fun W => slice8_run' b off xs.length cap tj ej (by omega) (by omega) (by omega) W
                  rw [show ej - tj = 8 by omega] at hsl hsl'
                  have C8 := hid fun (W : World) (hW : Ext w W) => r11Of 8 _ _ W (cutL_len (by omega)) ((HV.out.cut tj 8 (cap - tj) (by omega) (by omega) (by omega)).ext hW) (cutL_byt HX.out tj 8) (by omega)
                  have hbf : bodyF xs (j + 1) = bodyF xs j ++ [ofB (cutL xs (9 + 8 * j) 8)] := by unfold bodyF; rw [List.range_succ, List.map_append]; rfl
                  rw [show 9 + 8 * j = tj by omega] at hbf
                  obtain ⟨y, ey⟩ : ∃ y, ofB (cutL xs tj 8) = y := ⟨_, rfl⟩
                  rw [ey] at C8 hbf
                  have happ := hid (show ((bodyF xs j).map (Value.int .u64)) ++ [Value.int .u64 y] = (bodyF xs (j + 1)).map (Value.int .u64) by rw [hbf, List.map_append]; rfl)
                  have hbs3 := hid x4.size
                  have HTE := hid hte
                  clear emj etj eej ey hbf hte
                  go_wp2_with fail
                  obtain ⟨rv, erv⟩ : ∃ rv, Value.slice ar j cr = rv := ⟨_, rfl⟩
                  rw [erv] at HB HO
                  clear erv
                  refine wp_region_held_drew (S := fun _ => True) hmx trivial (fun hHeld => ?_)
                  refine wpAnyH_take (i := 0) (v := .pointer (some ⟨g, 3, none⟩)) rfl (by kernel_rfl) (by kernel_rfl) (by kernel_rfl) (fun _ _ _ h => h) (Or.inl ⟨by rfl, ?_⟩) hHeld ?_
                  · intro W' hSw
                    go_simp
                  refine wpAnyH_take (i := 2) (v := .slice (some ⟨b, off, none⟩) xs.length cap) rfl (by kernel_rfl) (by kernel_rfl) (by kernel_rfl) (fun _ _ _ h => h) (Or.inl ⟨by rfl, ?_⟩) hHeld ?_
                  · intro W' hSw
                    go_simp
                  refine wpAnyH_take (i := 3) (v := .int .i64 (j : Int)) rfl (by kernel_rfl) (by kernel_rfl) (by kernel_rfl) (fun _ _ _ h => h) (Or.inl ⟨by rfl, ?_⟩) hHeld ?_
                  · intro W' hSw
                    go_simp
                  refine wpAnyH_take (i := 4) (v := .int .i64 (mj : Int)) rfl (by kernel_rfl) (by kernel_rfl) (by kernel_rfl) (fun _ _ _ h => h) (Or.inl ⟨by rfl, ?_⟩) hHeld ?_
                  · intro W' hSw
                    go_simp
                  refine wpAnyH_take (i := 5) (v := .int .i64 (tj : Int)) rfl (by kernel_rfl) (by kernel_rfl) (by kernel_rfl) (fun _ _ _ h => h) (Or.inl ⟨by rfl, ?_⟩) hHeld ?_
                  · intro W' hSw
                    go_simp
                  refine wpAnyH_take (i := 6) (v := .int .i64 (j : Int)) rfl (by kernel_rfl) (by kernel_rfl) (by kernel_rfl) (fun _ _ _ h => h) (Or.inl ⟨by rfl, ?_⟩) hHeld ?_
                  · intro W' hSw
                    go_simp
                  refine wpAnyH_take (i := 7) (v := .int .i64 (mj : Int)) rfl (by kernel_rfl) (by kernel_rfl) (by kernel_rfl) (fun _ _ _ h => h) (Or.inl ⟨by rfl, ?_⟩) hHeld ?_
                  · intro W' hSw
                    go_simp
                  refine wpAnyH_take (i := 8) (v := .int .i64 (ej : Int)) rfl (by kernel_rfl) (by kernel_rfl) (by kernel_rfl) (fun _ _ _ h => h) (Or.inl ⟨by rfl, ?_⟩) hHeld ?_
                  · intro W' hSw
                    go_simp
                  refine wpAnyH_take (i := 9) (v := .slice (some ⟨b, off + tj, none⟩) 8 (cap - tj)) rfl (by kernel_rfl) (by kernel_rfl) (by kernel_rfl) (fun _ _ _ h => h) (Or.inl ⟨by rfl, ?_⟩) hHeld ?_
                  · intro W' hSw
                    go_simp
                  refine wpAnyH_ready (rs := [1, 10]) (by kernel_rfl) (by simp) ?_
                  refine AllReadyH.cons rfl (fun K hK => ?_) ?_
                  · have c0 : wr.drew.cell? ⟨g, 3, none⟩ = some rv := (HB.out.ext (Ext.refl wr).drew).cell 3
                    go_simp
                    refine hK.out _ _ trivial (fun hHeld => ?_)
                    clear hK K
                    clear c0
                    refine held_step 10 (by kernel_rfl) rfl (fun K hK => ?_)
                    go_simp
                    go_wp2_with fail
                    refine (C8.out _ (hxw.trans (Ext.refl wr).drew)).mono ?_
                    rintro _ w5 ⟨rfl, hd5⟩
                    have x5 : Ext wr w5 := ((Ext.refl wr).drew).trans hd5.ext
                    clear hd5
                    go_wp2_with fail
                    refine hK.out _ _ trivial (fun hHeld => ?_)
                    clear hK K
                    refine held_step 11 (by kernel_rfl) rfl (fun K hK => ?_)
                    go_simp
                    refine hK.out _ _ trivial (fun hHeld => ?_)
                    clear hK K
                    refine held_step 12 (by kernel_rfl) rfl (fun K hK => ?_)
                    refine step_append_at _ rfl _ _ 23 rfl wc.heap.size 48 i0 (.int .u64 0) 1 8 Try.underlying23 hi hz0 hz1 hz2 rfl (by decide) rv _ _ (by simp [Act.eval]) ((ownsRow_ext HO.out x5).alloc _) ⟨w5.heap.size, 0, none⟩ 1 1 [.int .u64 y] (by simp [Act.eval]) rfl (cells_new w5 [.int .u64 y] 48 rfl) (by simp [Value.oneCell']) (by simp only [maxLen]; omega) (by omega) (by have := hbs.out; have := x5.size; simp; omega) ?_
                    intro v6 w6 hown6 hgrow6 hat6
                    have hB6 := hid (((HB.out.ext x5).ext ((Ext.refl w5).alloc (.cells #[.int .u64 y] 48))).grown hgrow6 (fun e => by
                      rcases ownsRow_blk HO.out HB.out (by decide) with h | h
                      · rw [h] at e; cases e
                      · exact h e))
                    have hx6 := hid (((h3r.trans x5).alloc (.cells #[.int .u64 y] 48)).grown hgrow6 (fun k e => by have := (HO.out.lt k e).1; have := hbs3.out; omega))
                    obtain ⟨c0, c1, c2, c3⟩ := hB6.out.at4
                    have k3 := hB6.out.frozen 3
                    rw [happ.out] at hown6
                    have hs6 := hid (show wc.heap.size ≤ w6.heap.size by have := hgrow6.size; have := hbs.out; have := x5.size; simp at *; omega)
                    have ho6 := hid hown6
                    obtain ⟨a6, c6, e6, -, -⟩ := own_nums hown6
                    subst e6
                    have hB7 := hid (hB6.out.set_ 3 (.slice a6 (j + 1) c6))
                    have ho7 := hid (own_set ho6.out hB6.out (by decide) 3 (.slice a6 (j + 1) c6))
                    clear hown6 hgrow6 hat6
                    refine hK.out _ _ trivial (fun hHeld => ?_)
                    clear hK K
                    refine held_step 13 (by kernel_rfl) rfl (fun K hK => ?_)
                    go_simp
                    refine hK.out _ _ trivial (fun hHeld => ?_)
                    clear hK K
                    refine held_step 14 (by kernel_rfl) rfl (fun K hK => ?_)
                    go_simp
                    refine hK.out _ _ trivial (fun hHeld => ?_)
                    clear hK K
                    refine wpAnyH_done (by kernel_rfl) ?_ _
                    go_wp2_with fail
                    go_roundw
                    case rel => exact ⟨j + 1, .slice a6 (j + 1) c6, by go_num, by omega, hB7, ho7, hx6.out.setCell (p := ⟨g, 3, none⟩) hg _, hid (by simpa [World.setCell] using hs6.out)⟩
                    case measure => simp [intOf]; omega

                  refine AllReadyH.cons rfl (fun K hK => ?_) ?_
                  · go_simp
                    go_wp2_with fail
                    refine (C8.out _ (hxw.trans (Ext.refl wr).drew)).mono ?_
                    rintro _ w5 ⟨rfl, hd5⟩
                    have x5 : Ext wr w5 := ((Ext.refl wr).drew).trans hd5.ext
                    clear hd5
                    go_wp2_with fail
                    refine hK.out _ _ trivial (fun hHeld => ?_)
                    clear hK K
                    refine wpAnyH_ready (rs := [1, 11]) (by kernel_rfl) (by simp) ?_
                    refine AllReadyH.cons rfl (fun K hK => ?_) ?_
                    · have c0 := (HB.out.ext x5).cell 3
                      go_simp
                      refine hK.out _ _ trivial (fun hHeld => ?_)
                      clear hK K
                      clear c0
                      refine held_step 11 (by kernel_rfl) rfl (fun K hK => ?_)
                      go_simp
                      refine hK.out _ _ trivial (fun hHeld => ?_)
                      clear hK K
                      refine held_step 12 (by kernel_rfl) rfl (fun K hK => ?_)
                      refine step_append_at _ rfl _ _ 23 rfl wc.heap.size 48 i0 (.int .u64 0) 1 8 Try.underlying23 hi hz0 hz1 hz2 rfl (by decide) rv _ _ (by simp [Act.eval]) ((ownsRow_ext HO.out x5).alloc _) ⟨w5.heap.size, 0, none⟩ 1 1 [.int .u64 y] (by simp [Act.eval]) rfl (cells_new w5 [.int .u64 y] 48 rfl) (by simp [Value.oneCell']) (by simp only [maxLen]; omega) (by omega) (by have := hbs.out; have := x5.size; simp; omega) ?_
                      intro v6 w6 hown6 hgrow6 hat6
                      have hB6 := hid (((HB.out.ext x5).ext ((Ext.refl w5).alloc (.cells #[.int .u64 y] 48))).grown hgrow6 (fun e => by
                        rcases ownsRow_blk HO.out HB.out (by decide) with h | h
                        · rw [h] at e; cases e
                        · exact h e))
                      have hx6 := hid (((h3r.trans x5).alloc (.cells #[.int .u64 y] 48)).grown hgrow6 (fun k e => by have := (HO.out.lt k e).1; have := hbs3.out; omega))
                      obtain ⟨c0, c1, c2, c3⟩ := hB6.out.at4
                      have k3 := hB6.out.frozen 3
                      rw [happ.out] at hown6
                      have hs6 := hid (show wc.heap.size ≤ w6.heap.size by have := hgrow6.size; have := hbs.out; have := x5.size; simp at *; omega)
                      have ho6 := hid hown6
                      obtain ⟨a6, c6, e6, -, -⟩ := own_nums hown6
                      subst e6
                      have hB7 := hid (hB6.out.set_ 3 (.slice a6 (j + 1) c6))
                      have ho7 := hid (own_set ho6.out hB6.out (by decide) 3 (.slice a6 (j + 1) c6))
                      clear hown6 hgrow6 hat6
                      refine hK.out _ _ trivial (fun hHeld => ?_)
                      clear hK K
                      refine held_step 13 (by kernel_rfl) rfl (fun K hK => ?_)
                      go_simp
                      refine hK.out _ _ trivial (fun hHeld => ?_)
                      clear hK K
                      refine held_step 14 (by kernel_rfl) rfl (fun K hK => ?_)
                      go_simp
                      refine hK.out _ _ trivial (fun hHeld => ?_)
                      clear hK K
                      refine wpAnyH_done (by kernel_rfl) ?_ _
                      go_wp2_with fail
                      go_roundw
                      case rel => exact ⟨j + 1, .slice a6 (j + 1) c6, by go_num, by omega, hB7, ho7, hx6.out.setCell (p := ⟨g, 3, none⟩) hg _, hid (by simpa [World.setCell] using hs6.out)⟩
                      case measure => simp [intOf]; omega

                    refine AllReadyH.cons rfl (fun K hK => ?_) ?_
                    · go_simp
                      refine hK.out _ _ trivial (fun hHeld => ?_)
                      clear hK K
                      refine held_step 1 (by kernel_rfl) rfl (fun K hK => ?_)
                      have c0 := (HB.out.ext (x5.alloc (.cells #[.int .u64 y] 48))).cell 3
                      go_simp
                      refine hK.out _ _ trivial (fun hHeld => ?_)
                      clear hK K
                      clear c0
                      refine held_step 12 (by kernel_rfl) rfl (fun K hK => ?_)
                      refine step_append_at _ rfl _ _ 23 rfl wc.heap.size 48 i0 (.int .u64 0) 1 8 Try.underlying23 hi hz0 hz1 hz2 rfl (by decide) rv _ _ (by simp [Act.eval]) ((ownsRow_ext HO.out x5).alloc _) ⟨w5.heap.size, 0, none⟩ 1 1 [.int .u64 y] (by simp [Act.eval]) rfl (cells_new w5 [.int .u64 y] 48 rfl) (by simp [Value.oneCell']) (by simp only [maxLen]; omega) (by omega) (by have := hbs.out; have := x5.size; simp; omega) ?_
                      intro v6 w6 hown6 hgrow6 hat6
                      have hB6 := hid (((HB.out.ext x5).ext ((Ext.refl w5).alloc (.cells #[.int .u64 y] 48))).grown hgrow6 (fun e => by
                        rcases ownsRow_blk HO.out HB.out (by decide) with h | h
                        · rw [h] at e; cases e
                        · exact h e))
                      have hx6 := hid (((h3r.trans x5).alloc (.cells #[.int .u64 y] 48)).grown hgrow6 (fun k e => by have := (HO.out.lt k e).1; have := hbs3.out; omega))
                      obtain ⟨c0, c1, c2, c3⟩ := hB6.out.at4
                      have k3 := hB6.out.frozen 3
                      rw [happ.out] at hown6
                      have hs6 := hid (show wc.heap.size ≤ w6.heap.size by have := hgrow6.size; have := hbs.out; have := x5.size; simp at *; omega)
                      have ho6 := hid hown6
                      obtain ⟨a6, c6, e6, -, -⟩ := own_nums hown6
                      subst e6
                      have hB7 := hid (hB6.out.set_ 3 (.slice a6 (j + 1) c6))
                      have ho7 := hid (own_set ho6.out hB6.out (by decide) 3 (.slice a6 (j + 1) c6))
                      clear hown6 hgrow6 hat6
                      refine hK.out _ _ trivial (fun hHeld => ?_)
                      clear hK K
                      refine held_step 13 (by kernel_rfl) rfl (fun K hK => ?_)
                      go_simp
                      refine hK.out _ _ trivial (fun hHeld => ?_)
                      clear hK K
                      refine held_step 14 (by kernel_rfl) rfl (fun K hK => ?_)
                      go_simp
                      refine hK.out _ _ trivial (fun hHeld => ?_)
                      clear hK K
                      refine wpAnyH_done (by kernel_rfl) ?_ _
                      go_wp2_with fail
                      go_roundw
                      case rel => exact ⟨j + 1, .slice a6 (j + 1) c6, by go_num, by omega, hB7, ho7, hx6.out.setCell (p := ⟨g, 3, none⟩) hg _, hid (by simpa [World.setCell] using hs6.out)⟩
                      case measure => simp [intOf]; omega

                    exact AllReadyH.nil

                  exact AllReadyH.nil
                · obtain rfl : j = N := by omega
                  obtain ⟨c0, c1, c2, c3⟩ := HB.out.at4
                  have hZ5 := hid (hZ3.out.ext h3r)
                  obtain ⟨p0, p1, p2, p3⟩ := hZ5.out.at4
                  have k0 := hZ5.out.frozen 0; have k1 := hZ5.out.frozen 1; have k2 := hZ5.out.frozen 2; have k3 := hZ5.out.frozen 3
                  have eM := HEM.out; have eL := HEL.out
                  have hM72 := HM7.out
                  go_wp2_with fail
                  refine bodyPost_ret (results_cell_tmp_tmp rfl _ _ w.heap.size 25 _ (0, 0) _ rfl (Blk.put4 hZ5.out _ _ _ _) Try.underlying25 rfl (by kernel_rfl)) rfl ?_
                  refine ⟨.slice ar j cr, by rw [E1.out, E2.out, HE.out]; rfl, ?_, Ext.put4 hxw (Nat.le_refl _) _ _ _ _⟩
                  rw [E1.out]
                  have hbl : (bodyF xs j).length = j := by unfold bodyF; rw [List.length_map, List.length_range]
                  show World.ownsRow _ _ _ _ _ (bodyF xs j).length _
                  rw [hbl]
                  exact ownsRow_low (own_put4 HO.out hZ5.out (by decide) _ _ _ _) (x3.trans x4).size
          · have b1 : (nb != sm) = true := by simp [hsum]
            have he := nextE_sum (by omega) hfm (by rw [HNN.out]; omega) (by rw [HNN.out, show 9 + 8 * N = T by omega, enb, esm]; exact hsum)
            obtain ⟨e1, e2⟩ := nx_no he (by omega)
            have E1 := hid e1; have E2 := hid e2; have HE := hid he
            clear he e1 e2 hM hL hT hTL enb esm hsum
            go_wp2_with fail
            go_quiet ((first | (go_at_call 24; first | exact quiet_d (C3.out _ (x2.drewN _)) | exact quiet_add_d (C3.out _ (x2.drewN _))) | (go_at_call 16; first | exact quiet_l (CS.out _ (x2.drewN _)) | exact quiet_add_l (CS.out _ (x2.drewN _)))))
            obtain ⟨w3, hw3⟩ : ∃ w3, w2.drewN nq = w3 := ⟨_, rfl⟩
            have z3 : Ext w2 w3 := hw3 ▸ (Ext.refl w2).drewN _
            have hZ3 := hid (hZ2.out.ext z3)
            have x3 := x2.trans z3
            rw [hw3]
            clear hw3 z3 hZ2 d0 d1 d2 d3 f0 f1 f2 f3 q0 q1
            obtain ⟨d0, d1, d2, d3⟩ := hZ3.out.at4
            have f0 := hZ3.out.frozen 0; have f1 := hZ3.out.frozen 1; have f2 := hZ3.out.frozen 2; have f3 := hZ3.out.frozen 3
            go_wp2_with fail
            refine bodyPost_ret (results_cell_tmp_tmp rfl _ _ w.heap.size 25 _ (0, 0) _ rfl (Blk.put4 hZ3.out _ _ _ _) Try.underlying25 rfl (by kernel_rfl)) rfl ?_
            exact ⟨_, by rw [E1.out, E2.out, HE.out]; rfl, by rw [E1.out]; exact World.ownsRow_nil _ _ _ _, Ext.put4 x3 (Nat.le_refl _) _ _ _ _⟩
      · have he := nextE_form (by omega) (HFO.out.trans (by simp; omega))
        obtain ⟨e1, e2⟩ := nx_no he (by omega)
        have E1 := hid e1; have E2 := hid e2; have HE := hid he
        clear he e1 e2
        go_wp2_with fail
        refine bodyPost_ret (results_cell_tmp_tmp rfl _ _ w.heap.size 25 _ (0, 0) _ rfl (Blk.put4 hZ2.out _ _ _ _) Try.underlying25 rfl (by kernel_rfl)) rfl ?_
        exact ⟨_, by rw [E1.out, E2.out, HE.out]; rfl, by rw [E1.out]; exact World.ownsRow_nil _ _ _ _, Ext.put4 x2 (Nat.le_refl _) _ _ _ _⟩
    · have he := nextE_form (by omega) (HFO.out.trans (by simp; omega))
      obtain ⟨e1, e2⟩ := nx_no he (by omega)
      have E1 := hid e1; have E2 := hid e2; have HE := hid he
      clear he e1 e2
      go_wp2_with fail
      refine bodyPost_ret (results_cell_tmp_tmp rfl _ _ w.heap.size 25 _ (0, 0) _ rfl (Blk.put4 hZ2.out _ _ _ _) Try.underlying25 rfl (by kernel_rfl)) rfl ?_
      exact ⟨_, by rw [E1.out, E2.out, HE.out]; rfl, by rw [E1.out]; exact World.ownsRow_nil _ _ _ _, Ext.put4 x2 (Nat.le_refl _) _ _ _ _⟩
end Go.Proofs.Yticabjdcegimcaa
