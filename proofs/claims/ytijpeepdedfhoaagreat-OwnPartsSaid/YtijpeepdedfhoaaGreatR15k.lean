/- Whether a place is one where a matrix keeps a direction, as the law of layer 15 has it. -/
import Derived.Test.YtijpeepdedfhoaaGreatR15
import Derived.Test.YtijpeepdedfhoaaGreatBun12
import Derived.Deep.AppendLies
namespace Go.Proofs.YtijpeepdedfhoaaGreat
open Go.RowKit Go.Maps

set_option maxRecDepth 100000 in
set_option maxHeartbeats 2000000 in
theorem r15kept (p z : Int) (n : Nat) (v : Value) (xs : List Int) (w : World) (ok : MatOk p n n xs) (hf : Fld p) (hz0 : 0 ≤ z) (hz1 : z < p) (hv : Ints .u64 w v xs) :
    Calls Tryz.prog 22 #[.int .u64 p, matV n n v, .int .u64 z] w (Ret (.bool (decide (detF n (atF n (shL p n z xs)) % p = 0))) w) := by
  obtain ⟨i0, hi, hz0', hz1', hz2'⟩ := info_parts info_u64p
  have hp2 := rightB_true ok.hp
  have hn := ok.hn
  have hnn : n * n ≤ 4096 := Nat.mul_le_mul hn.2 hn.2
  have hpos : 0 < n * n := Nat.mul_pos hn.1 hn.1
  have CD := hid fun (W : World) (u : Value) (hu : Ints .u64 W u (shL p n z xs)) => cmDet_yes p n u (shL p n z xs) W (shL_ok ok z) hf hu
  have M2 := hid fun (x y r : Int) (W : World) (h1 : 0 ≤ x) (h2 : x < p) (h3 : 0 ≤ y) (h4 : y < p) (h : (x - y) % p = r) => rSub p x y r W ok.hp h1 h2 h3 h4 h
  have HR := hid ok.hx
  obtain ⟨G, hG⟩ : ∃ G : Nat → Int, (fun t => ((if t / n = t % n then z else 0) - xs.getD (t / n * n + t % n) 0) % p) = G := ⟨_, rfl⟩
  have HG := hid fun t => (show G t = ((if t / n = t % n then z else 0) - xs.getD t 0) % p by
    rw [← hG]
    show ((if t / n = t % n then z else 0) - xs.getD (t / n * n + t % n) 0) % p = _
    rw [show t / n * n + t % n = t by rw [Nat.mul_comm]; exact Nat.div_add_mod t n])
  have HS := hid (show shL p n z xs = tab (n * n) G by rw [← hG]; rfl)
  rw [HS.out] at CD
  obtain ⟨dv', edv⟩ : ∃ d, detF n (atF n (shL p n z xs)) % p = d := ⟨_, rfl⟩
  rw [show detF n (atF n (tab (n * n) G)) % p = dv' by rw [← HS.out]; exact edv] at CD
  rw [edv]
  have eb : (dv' == 0) = decide (dv' = 0) := by rw [Bool.eq_iff_iff]; simp
  obtain ⟨Bz, hBz⟩ : ∃ B, decide (dv' = 0) = B := ⟨_, rfl⟩
  rw [hBz] at eb ⊢
  obtain ⟨a, cap, rfl, k1, k2, k3⟩ := hv
  rw [ok.hl] at k1 k3 ⊢
  obtain ⟨N, hN⟩ : ∃ N, n * n = N := ⟨_, rfl⟩
  rw [hN] at hnn hpos k1 k3 CD ⊢
  obtain ⟨b, off, rfl, hb, hc⟩ := k3 hpos
  have HC := hid hc
  clear k3 hc hN hG HS edv hBz ok
  unfold matV at CD
  unfold matV
  have hA0 := (Blk.new w 25 #[.int .i64 (n : Int), .int .i64 (n : Int), .slice (some ⟨b, off, none⟩) N cap]).ext ((Ext.refl _).alloc (.cells #[.int .i64 (n : Int), .int .i64 (n : Int), .slice none 0 0] 25))
  have hO0 := Blk.new (w.alloc (.cells #[.int .i64 (n : Int), .int .i64 (n : Int), .slice (some ⟨b, off, none⟩) N cap] 25)) 25 #[.int .i64 (n : Int), .int .i64 (n : Int), .slice none 0 0]
  obtain ⟨m0, m1, m2⟩ := (Blk.new w 25 #[.int .i64 (n : Int), .int .i64 (n : Int), .slice (some ⟨b, off, none⟩) N cap]).at3
  have hx0 : Ext w ((w.alloc (.cells #[.int .i64 (n : Int), .int .i64 (n : Int), .slice (some ⟨b, off, none⟩) N cap] 25)).alloc (.cells #[.int .i64 (n : Int), .int .i64 (n : Int), .slice none 0 0] 25)) := ((Ext.refl w).alloc _).alloc _
  have hs0 : ((w.alloc (.cells #[.int .i64 (n : Int), .int .i64 (n : Int), .slice (some ⟨b, off, none⟩) N cap] 25)).alloc (.cells #[.int .i64 (n : Int), .int .i64 (n : Int), .slice none 0 0] 25)).heap.size = w.heap.size + 1 + 1 := by rw [alloc_size, alloc_size]
  go_enter Tryz.func22, Tryz.ntmps22
  go_wp2_with fail
  clear m0 m1 m2
  obtain ⟨wz, hwz⟩ : ∃ wz, (w.alloc (.cells #[.int .i64 (n : Int), .int .i64 (n : Int), .slice (some ⟨b, off, none⟩) N cap] 25)).alloc (.cells #[.int .i64 (n : Int), .int .i64 (n : Int), .slice none 0 0] 25) = wz := ⟨_, rfl⟩
  rw [hwz] at hA0 hO0 hx0 hs0
  rw [alloc_size] at hO0
  rw [hwz]
  obtain ⟨g1, hg1⟩ : ∃ g, w.heap.size = g := ⟨_, rfl⟩
  rw [hg1] at hA0 hO0 hs0
  rw [hg1]
  obtain ⟨g3, hg3⟩ : ∃ g, g1 + 1 = g := ⟨_, rfl⟩
  rw [hg3] at hO0 hs0
  rw [hg3]
  have n13 : g1 ≠ g3 := by omega
  have hw1 : w.heap.size ≤ g3 := by omega
  have HA0 := hid hA0
  have HB0 := hid (show Bld w wz g3 wz.heap.size n n (.slice none 0 0) 0 G from ⟨hO0, World.ownsRow_nil _ _ _ _, hx0, hx0.size, hw1⟩)
  clear hwz hg1 hg3 hA0 hO0 hx0 hs0
  go_loopw [8] (fun iv wr => ∃ (i : Nat) (rv : Value), iv = .int .i64 i ∧ i ≤ N ∧ Hid (Bld w wr g3 wz.heap.size n n rv i G) ∧ Hid (Blk wr g1 25 #[.int .i64 (n : Int), .int .i64 (n : Int), .slice (some ⟨b, off, none⟩) N cap]) ∧ wz.heap.size ≤ wr.heap.size) (fun iv _ => N - (intOf iv).toNat)
  case atStart => exact ⟨0, _, rfl, Nat.zero_le _, HB0, HA0, Nat.le_refl _⟩
  case round =>
    obtain ⟨i, rv, rfl, hi', HB, HA, hsz⟩ := hrel
    rename World => wi
    obtain ⟨b0, b1, b2⟩ := HA.out.at3
    by_cases hlt : i < N
    · have gx := (HB.out.ext.cells _ _ hb).trans (HC.out i hlt)
      have gxd := ((Ext.refl wi).drew.cells _ _ (cell_lt gx)).trans gx
      obtain ⟨x, ex⟩ : ∃ x, xs.getD i 0 = x := ⟨_, rfl⟩
      rw [ex] at gx gxd
      have hxr : 0 ≤ x ∧ x < p := by rw [← ex]; exact HR.out.getD hp2.1 i
      obtain ⟨D, eD⟩ : ∃ D, i / n = D := ⟨_, rfl⟩
      obtain ⟨M, eM⟩ : ∃ M, i % n = M := ⟨_, rfl⟩
      have tD : ((i : Int)).tdiv (n : Int) = (D : Int) := by rw [Int.tdiv_eq_ediv_of_nonneg (by omega), ← eD]; rfl
      have tM : ((i : Int)).tmod (n : Int) = (M : Int) := by rw [Int.tmod_eq_emod_of_nonneg (by omega), ← eM]; rfl
      have bD : D ≤ 4096 := by rw [← eD]; exact Nat.le_trans (Nat.div_le_self _ _) (by omega)
      have bM : M ≤ 4096 := by rw [← eM]; exact Nat.le_trans (Nat.mod_le _ _) (by omega)
      have n0 : ((n : Int) == 0) = false := by simp; omega
      obtain ⟨y, ey⟩ : ∃ y, G i = y := ⟨_, rfl⟩
      have hq := HG.out i
      rw [ey, ex, eD, eM] at hq
      have happ := hid (show ((tab i G).map (Value.int .u64)) ++ [Value.int .u64 y] = (tab (i + 1) G).map (Value.int .u64) by rw [tab_succ, List.map_append, ey]; rfl)
      have hib : i ≤ 4096 := by omega
      obtain ⟨o0, o1, o2⟩ := HB.out.box.at3
      have of := HB.out.box.frozen 2
      have i1 : (i : Int) < (N : Int) := by omega
      have i0' : (0 : Int) ≤ (i : Int) := by omega
      obtain ⟨f, ef, hf0, hf1, hfr⟩ : ∃ f : Int, (if D = M then z else 0) = f ∧ 0 ≤ f ∧ f < p ∧ (f - x) % p = y := by
        refine ⟨_, rfl, ?_, ?_, hq.symm⟩
        · split <;> omega
        · split <;> omega
      have CS := hid fun (W : World) => M2.out f x y W hf0 hf1 hxr.1 hxr.2 hfr
      have bDM : ((D : Int) == (M : Int)) = decide (D = M) := by rw [Bool.eq_iff_iff]; simp; omega
      clear ex eD eM ey hq hxr hfr hf0 hf1
      by_cases hDM : D = M
      · rw [if_pos hDM] at ef
        rw [decide_eq_true hDM] at bDM
        subst ef
        clear hDM
        go_wp2_with fail
        go_quiet (fail)
        go_wp2_with fail
        have kq := hid fun (q : Nat) => (Ext.refl wi).drewN q
        generalize hWq : World.drewN wi _ = wq
        have eq0 : Ext wi wq := hWq ▸ kq.out _
        have HBq := hid (HB.out.ext' eq0)
        have HAq := hid (HA.out.ext eq0)
        have gxq := (eq0.cells _ _ (cell_lt gx)).trans gx
        have hszq := eq0.size
        clear hWq kq o0 o1 o2 of b0 b1 b2 gx gxd
        obtain ⟨o0, o1, o2⟩ := HBq.out.box.at3
        obtain ⟨b0, b1, b2⟩ := HAq.out.at3
        have of := HBq.out.box.frozen 2
        go_region_law (first
          | (refine step_append_at _ rfl (.tmp 35) (.tmp 44) 23 rfl wz.heap.size 22 i0 (.int .u64 0) 1 8 Tryz.underlying23 hi hz0' hz1' hz2' rfl (by decide) rv i ((tab i G).map (Value.int .u64)) (by simp [Act.eval]) (ownsRow_ext HBq.out.own (((Ext.refl wq).drew).alloc _)) ⟨wq.heap.size, 0, none⟩ 1 1 [.int .u64 y] (by simp [Act.eval]) rfl (cells_new _ _ _ (by simp)) (by simp [Value.oneCell']) (by simp only [maxLen]; omega) (by omega) (by simp; omega) ?_
             intro v6 w6 hown6 hgrow6 hat6
             have hB5 := hid (HBq.out.ext' (((Ext.refl wq).drew).alloc (.cells #[.int .u64 y] 22)))
             have e6 : Ext wq ((wq.drew).alloc (.cells #[.int .u64 y] 22)) := ((Ext.refl wq).drew).alloc _
             have hb6 := hB5.out.box' hgrow6
             have o6 := hb6.1
             have f6 := hb6.2
             rw [happ.out] at hown6
             have Hown6 := hid hown6
             obtain ⟨a6, c6, rfl, q2, q3, q4, q5⟩ := WRow.of_owns hown6
             clear q5 q4 hown6 hb6)
          | (go_simp; go_at_call 64; refine (CS.out _).mono ?_; rintro _ _ ⟨rfl, rfl⟩
             obtain ⟨s0, s1, s2⟩ := (HBq.out.box.ext (((Ext.refl wq).drew).alloc (.cells #[.int .u64 y] 22))).at3
             obtain ⟨t0, t1, t2⟩ := (HBq.out.box.ext ((Ext.refl wq).alloc (.cells #[.int .u64 y] 22))).at3))
        all_goals
          have hs5 := e6.size
          have hs7 : wz.heap.size ≤ w6.heap.size := Nat.le_trans (Nat.le_trans hsz (Nat.le_trans hszq hs5)) hgrow6.size
          go_wp2_with fail
          go_roundw
          case rel => exact ⟨i + 1, _, by go_num, by omega, hid (hB5.out.next Hown6.out hgrow6), hid (hB5.out.other (HAq.out.ext e6) (by decide) n13 hgrow6), by simp only [World.setCell, Array.size_modify]; exact hs7⟩
          case measure => simp [intOf]; omega
      · rw [if_neg hDM] at ef
        rw [decide_eq_false hDM] at bDM
        subst ef
        clear hDM
        go_wp2_with fail
        go_quiet (fail)
        go_wp2_with fail
        have kq := hid fun (q : Nat) => (Ext.refl wi).drewN q
        generalize hWq : World.drewN wi _ = wq
        have eq0 : Ext wi wq := hWq ▸ kq.out _
        have HBq := hid (HB.out.ext' eq0)
        have HAq := hid (HA.out.ext eq0)
        have gxq := (eq0.cells _ _ (cell_lt gx)).trans gx
        have hszq := eq0.size
        clear hWq kq o0 o1 o2 of b0 b1 b2 gx gxd
        obtain ⟨o0, o1, o2⟩ := HBq.out.box.at3
        obtain ⟨b0, b1, b2⟩ := HAq.out.at3
        have of := HBq.out.box.frozen 2
        go_region_law (first
          | (refine step_append_at _ rfl (.tmp 35) (.tmp 44) 23 rfl wz.heap.size 22 i0 (.int .u64 0) 1 8 Tryz.underlying23 hi hz0' hz1' hz2' rfl (by decide) rv i ((tab i G).map (Value.int .u64)) (by simp [Act.eval]) (ownsRow_ext HBq.out.own (((Ext.refl wq).drew).alloc _)) ⟨wq.heap.size, 0, none⟩ 1 1 [.int .u64 y] (by simp [Act.eval]) rfl (cells_new _ _ _ (by simp)) (by simp [Value.oneCell']) (by simp only [maxLen]; omega) (by omega) (by simp; omega) ?_
             intro v6 w6 hown6 hgrow6 hat6
             have hB5 := hid (HBq.out.ext' (((Ext.refl wq).drew).alloc (.cells #[.int .u64 y] 22)))
             have e6 : Ext wq ((wq.drew).alloc (.cells #[.int .u64 y] 22)) := ((Ext.refl wq).drew).alloc _
             have hb6 := hB5.out.box' hgrow6
             have o6 := hb6.1
             have f6 := hb6.2
             rw [happ.out] at hown6
             have Hown6 := hid hown6
             obtain ⟨a6, c6, rfl, q2, q3, q4, q5⟩ := WRow.of_owns hown6
             clear q5 q4 hown6 hb6)
          | (go_simp; go_at_call 64; refine (CS.out _).mono ?_; rintro _ _ ⟨rfl, rfl⟩
             obtain ⟨s0, s1, s2⟩ := (HBq.out.box.ext (((Ext.refl wq).drew).alloc (.cells #[.int .u64 y] 22))).at3
             obtain ⟨t0, t1, t2⟩ := (HBq.out.box.ext ((Ext.refl wq).alloc (.cells #[.int .u64 y] 22))).at3))
        all_goals
          have hs5 := e6.size
          have hs7 : wz.heap.size ≤ w6.heap.size := Nat.le_trans (Nat.le_trans hsz (Nat.le_trans hszq hs5)) hgrow6.size
          go_wp2_with fail
          go_roundw
          case rel => exact ⟨i + 1, _, by go_num, by omega, hid (hB5.out.next Hown6.out hgrow6), hid (hB5.out.other (HAq.out.ext e6) (by decide) n13 hgrow6), by simp only [World.setCell, Array.size_modify]; exact hs7⟩
          case measure => simp [intOf]; omega
    · obtain rfl : i = N := by omega
      obtain ⟨o0, o1, o2⟩ := HB.out.box.at3
      obtain ⟨a6, c6, rfl, q2, q3, q4, q5⟩ := WRow.of_owns HB.out.own
      have hI := hid (own_ints HB.out.own)
      have C := hid (CD.out wi _ hI.out)
      clear q5
      go_wp2_with fail
      refine C.out.mono ?_
      rintro _ w7 ⟨rfl, x7⟩
      go_wp2_with fail
      go_ret
      exact ⟨ret_bool (by simp), HB.out.ext.trans x7⟩
end Go.Proofs.YtijpeepdedfhoaaGreat
