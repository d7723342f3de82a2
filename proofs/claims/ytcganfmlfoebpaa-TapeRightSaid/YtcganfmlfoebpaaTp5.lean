/- The document's own Draw and Many. -/
import Derived.Test.YtcganfmlfoebpaaTp4
namespace Go.Proofs.Ytcganfmlfoebpaa
open Go.RowKit Go.Maps

def r1X (p m : Int) (K : Nat) (xs : List Int) : Int := ((numsW (goodB p m) 1 (xs.drop K)).map (fun x => x % p)).getD 0 0
def rE (g : Int → Bool) (n K : Nat) (xs : List Int) : Int := if okW g n (xs.drop K) then 0 else 9
def RetR1 (p m : Int) (K : Nat) (v : Value) (xs : List Int) (w : World) (e : Ending) (w' : World) : Prop :=
  e = .returned (.tuple #[.int .u64 (r1X p m K xs), tapeV v ((K + used (goodB p m) 1 (xs.drop K) : Nat) : Int), .int .i64 (rE (goodB p m) 1 K xs)]) ∧ Ext w w'
/-- the next word that counts is taken -/
theorem Rd.hit {g : Int → Bool} {xs : List Int} {k K : Nat} (r : Rd g xs k 1 K []) (h : K < xs.length) (hb : g (xs.getD K 0) = true) : numsW g 1 (xs.drop k) = [xs.getD K 0] ∧ okW g 1 (xs.drop k) = true ∧ k + Go.Proofs.Ytcganfmlfoebpaa.used g 1 (xs.drop k) = K + 1 :=
  (r.good h (by simp) hb).done (by simp)
set_option maxRecDepth 100000 in
set_option maxHeartbeats 1000000 in
theorem r10Draw (p : Int) (s K : Nat) (v : Value) (xs : List Int) (w : World) (hp : rightB p = true) (hs : s ≤ 1) (hv : Ints .u64 w v xs) (hx : U64s xs) (hK : K ≤ xs.length) (hl : xs.length ≤ 1000000) :
    Calls Try.prog 18 #[.int .u64 p, tapeV v K, .int .i64 s] w (RetR1 p s K v xs w) := by
  have hp2 := rightB_true hp
  have HX := hid hx; have HP := hid hp
  have HR0 := hid (Rd.start (g := goodB p s) (n := 1) hK)
  obtain ⟨a, cap, rfl, k1, k2, k3⟩ := hv
  have K3 := hid k3
  clear k3 hx hp
  have hA0 := (Blk.new w 25 #[.slice a xs.length cap, .int .i64 (K : Int)]).ext ((Ext.refl _).alloc (.cells #[.slice none 0 0, .int .i64 0] 25))
  have hZ0 := Blk.new (w.alloc (.cells #[.slice a xs.length cap, .int .i64 (K : Int)] 25)) 25 #[.slice none 0 0, .int .i64 0]
  rw [alloc_size] at hZ0
  have HA0 := hid hA0; have HZ0 := hid hZ0
  clear hA0 hZ0
  unfold tapeV
  go_enter Try.func18, Try.ntmps18
  go_wp2_with fail
  go_loopw [9] (fun _ wr => ∃ (J : Nat), Hid (Blk wr w.heap.size 25 #[.slice a xs.length cap, .int .i64 (J : Int)]) ∧ Hid (Blk wr (w.heap.size + 1) 25 #[.slice none 0 0, .int .i64 0]) ∧ Ext w wr ∧ Hid (Rd (goodB p s) xs K 1 J [])) (fun _ wr => xs.length - cellNat wr w.heap.size 1)
  case atStart => exact ⟨K, HA0, HZ0, (by repeat (first | exact Ext.refl _ | assumption | refine Ext.drew ?_ | refine Ext.drewN ?_ _ | refine Ext.alloc ?_ _ | refine Ext.trans ?_ (by assumption))), HR0⟩
  case round =>
    clear HA0 HZ0 HR0
    obtain ⟨J, HA, HZ, hw, HR⟩ := hrel
    rename World => wr
    obtain ⟨b0, b1⟩ := HA.out.at2
    obtain ⟨z0, z1⟩ := HZ.out.at2
    have y0 := HZ.out.frozen 0
    have y1 := HZ.out.frozen 1
    have fA := HA.out.frozen 1
    have hJ := HR.out.le
    have HM := hid (cellNat_of b1)
    by_cases hlt : J < xs.length
    · obtain ⟨b, off, rfl, hb, hcell⟩ := K3.out (by omega)
      have c1 : wr.cell? ⟨b, off + J, none⟩ = some (.int .u64 (xs.getD J 0)) := (hw.cells _ _ hb).trans (hcell J hlt)
      have hxg := U64s.get HX.out hlt
      obtain ⟨x, ex⟩ : ∃ x, xs.getD J 0 = x := ⟨_, rfl⟩
      rw [ex] at c1 hxg
      have EX := hid ex
      have CC := hid fun W => r10Counts p x W (by omega) (by omega) hxg.1 hxg.2
      have HN := hid (show Blk (wr.setCell ⟨w.heap.size, 1, none⟩ (.int .i64 ((J : Int) + 1))) w.heap.size 25 #[.slice (some ⟨b, off, none⟩) xs.length cap, .int .i64 ((J + 1 : Nat) : Int)] by have := HA.out.set_ 1 (.int .i64 ((J : Int) + 1)); simpa using this)
      have HZN := hid (HZ.out.two (g' := w.heap.size) 1 (.int .i64 ((J : Int) + 1)) (by omega))
      have hwN := hw.setCell (p := ⟨w.heap.size, 1, none⟩) (Nat.le_refl _) (.int .i64 ((J : Int) + 1))
      obtain ⟨y, ey⟩ : ∃ y, x % p = y := ⟨_, rfl⟩
      have hy := mod_range x hp2.1
      rw [ey] at hy
      have GX := hid (show goodB p s x = (cntB p x && decide ((s : Int) ≤ y)) by unfold goodB; rw [ey])
      have hty : x.tmod p = y := by rw [Int.tmod_eq_emod_of_nonneg hxg.1]; exact ey
      have EY := hid ey
      have hp0 : p ≠ 0 := by omega
      clear hcell ex ey
      obtain ⟨n0, n1⟩ := HN.out.at2
      obtain ⟨nz0, nz1⟩ := HZN.out.at2
      have ny0 := HZN.out.frozen 0
      have ny1 := HZN.out.frozen 1
      cases hC : cntB p x with
      | false =>
        rw [hC] at CC GX
        clear hC
        have hb := hid (HR.out.bad hlt (by simp) (by rw [EX.out, GX.out]; rfl))
        go_wp2_with (go_at_call 14; refine (CC.out _).mono ?_; rintro _ _ ⟨rfl, rfl⟩)
        go_roundw
        case rel => exact ⟨J + 1, HN, HZN, hwN, hb⟩
        case measure => rw [cellNat_of (HN.out.at2.2), HM.out]; simp; omega
      | true =>
        rw [hC] at CC GX
        clear hC
        have hs2 : s = 0 ∨ s = 1 := by omega
        rcases hs2 with rfl | rfl
        · have Hit := hid (HR.out.hit hlt (by rw [EX.out, GX.out]; simp; try omega))
          have hR1 := hid (show r1X p ((0 : Nat) : Int) K xs = y by unfold r1X; rw [Hit.out.1, EX.out]; simp; exact EY.out)
          have hR2 := hid (show rE (goodB p ((0 : Nat) : Int)) 1 K xs = 0 by unfold rE; rw [Hit.out.2.1]; rfl)
          go_wp2_with (go_at_call 14; refine (CC.out _).mono ?_; rintro _ _ ⟨rfl, rfl⟩)
          go_region
          go_wp2_with fail
          refine bodyPost_ret (results_tmp_cell_tmp rfl _ _ (w.heap.size + 1) 25 _ (0, 0) _ rfl (HZN.out.put2 _ _) Try.underlying25 rfl (by kernel_rfl)) rfl ?_
          exact ⟨by rw [hR1.out, hR2.out, Hit.out.2.2]; simp [tapeV], (((hwN.setCell (by simp) _).setCell (by simp) _).drew)⟩
        · by_cases h0 : y = 0
          · have hb := hid (HR.out.bad hlt (by simp) (by rw [EX.out, GX.out]; simp; omega))
            subst h0
            go_wp2_with (go_at_call 14; refine (CC.out _).mono ?_; rintro _ _ ⟨rfl, rfl⟩)
            go_roundw
            case rel => (repeat apply Exists.intro); exact ⟨⟨J + 1, HN, HZN, hwN, hb⟩, rfl⟩
            case measure => rw [cellNat_of (HN.out.at2.2), HM.out]; simp; omega
          · have e0 : (y != 0) = true := by simpa using h0
            have Hit := hid (HR.out.hit hlt (by rw [EX.out, GX.out]; simp; try omega))
            have hR1 := hid (show r1X p ((1 : Nat) : Int) K xs = y by unfold r1X; rw [Hit.out.1, EX.out]; simp; exact EY.out)
            have hR2 := hid (show rE (goodB p ((1 : Nat) : Int)) 1 K xs = 0 by unfold rE; rw [Hit.out.2.1]; rfl)
            go_wp2_with (go_at_call 14; refine (CC.out _).mono ?_; rintro _ _ ⟨rfl, rfl⟩)
            go_region
            go_wp2_with fail
            refine bodyPost_ret (results_tmp_cell_tmp rfl _ _ (w.heap.size + 1) 25 _ (0, 0) _ rfl (HZN.out.put2 _ _) Try.underlying25 rfl (by kernel_rfl)) rfl ?_
            exact ⟨by rw [hR1.out, hR2.out, Hit.out.2.2]; simp [tapeV], (((hwN.setCell (by simp) _).setCell (by simp) _).drew)⟩
    · obtain rfl : xs.length = J := by omega
      have hov := hid (HR.out.over (by simp) rfl)
      have hR1 := hid (show r1X p s K xs = 0 by
        have := hov.out.1
        unfold okW at this
        have e : ((xs.drop K).filter (goodB p s)) = [] := List.eq_nil_of_length_eq_zero (by simp at this; simpa using this)
        unfold r1X numsW; rw [e]; rfl)
      have hR2 := hid (show rE (goodB p s) 1 K xs = 9 by unfold rE; rw [hov.out.1]; rfl)
      go_wp2_with fail
      go_region
      go_wp2_with fail
      refine bodyPost_ret (results_tmp_cell_tmp rfl _ _ (w.heap.size + 1) 25 _ (0, 0) _ rfl (HZ.out.put2 _ _) Try.underlying25 rfl (by kernel_rfl)) rfl ?_
      exact ⟨by rw [hR1.out, hR2.out, hov.out.2]; simp [tapeV], (((hw.setCell (by simp) _).setCell (by simp) _).drew)⟩

theorem ok_next {g : Int → Bool} {ws : List Int} {i : Nat} (h : okW g i ws = true) : okW g (i + 1) ws = okW g 1 (ws.drop (used g i ws)) := by
  unfold okW at *
  rw [used_drop, List.length_drop, Bool.eq_iff_iff, decide_eq_true_eq, decide_eq_true_eq]
  rw [decide_eq_true_eq] at h
  omega
theorem nums_next (g : Int → Bool) (ws : List Int) (i : Nat) : numsW g (i + 1) ws = numsW g i ws ++ numsW g 1 (ws.drop (used g i ws)) := by
  unfold numsW
  rw [used_drop, List.take_add]
theorem ok_short {g : Int → Bool} {ws : List Int} {i n : Nat} (h : okW g i ws = false) (hn : i ≤ n) : okW g n ws = false ∧ used g n ws = ws.length := by
  unfold okW at *
  rw [decide_eq_false_iff_not] at h
  exact ⟨decide_eq_false (by omega), used_end _ _ (by omega)⟩
def rL (p m : Int) (n K : Nat) (xs : List Int) : List Int := if okW (goodB p m) n (xs.drop K) then (numsW (goodB p m) n (xs.drop K)).map (fun x => x % p) else []
def RetRM (p m : Int) (n K : Nat) (v : Value) (xs : List Int) (w : World) (e : Ending) (w' : World) : Prop :=
  ∃ u, e = .returned (.tuple #[u, tapeV v ((K + used (goodB p m) n (xs.drop K) : Nat) : Int), .int .i64 (rE (goodB p m) n K xs)]) ∧ Ints .u64 w' u (rL p m n K xs) ∧ Ext w w'
set_option maxRecDepth 100000 in
set_option maxHeartbeats 1000000 in
theorem r10Many (p : Int) (s n K : Nat) (v : Value) (xs : List Int) (w : World) (hp : rightB p = true) (hs : s ≤ 1) (hn : n ≤ 100000) (hv : Ints .u64 w v xs) (hx : U64s xs) (hK : K ≤ xs.length) (hl : xs.length ≤ 1000000) :
    Calls Try.prog 20 #[.int .u64 p, tapeV v K, .int .i64 n, .int .i64 s] w (RetRM p s n K v xs w) := by
  obtain ⟨i0, hi, hz0, hz1, hz2⟩ := info_parts info_u64p
  have CD := hid fun (J : Nat) (W : World) (hW : Ext w W) (hJ : J ≤ xs.length) => r10Draw p s J v xs W hp hs (hv.ext hW) hx hJ hl
  obtain ⟨a, cap, rfl, k1, k2, k3⟩ := hv
  obtain ⟨g, hg⟩ : ∃ g, goodB p s = g := ⟨_, rfl⟩
  obtain ⟨ws, hws⟩ : ∃ ws, xs.drop K = ws := ⟨_, rfl⟩
  have HG := hid hg; have HWS := hid hws
  have hwl := hid (show ws.length = xs.length - K by rw [← hws, List.length_drop])
  have hA0 := (Blk.new w 25 #[.slice a xs.length cap, .int .i64 (K : Int)]).ext ((Ext.refl _).alloc (.cells #[.slice none 0 0, .int .i64 0] 25))
  have hZ0 := Blk.new (w.alloc (.cells #[.slice a xs.length cap, .int .i64 (K : Int)] 25)) 25 #[.slice none 0 0, .int .i64 0]
  rw [alloc_size] at hZ0
  have HA0 := hid (show Blk _ _ _ #[.slice a xs.length cap, .int .i64 ((K + used g 0 ws : Nat) : Int)] by rw [used_zero]; exact hA0)
  have HZ0 := hid hZ0
  have hsz := hid (show w.heap.size + 2 ≤ ((w.alloc (.cells #[.slice a xs.length cap, .int .i64 (K : Int)] 25)).alloc (.cells #[.slice none 0 0, .int .i64 0] 25)).heap.size by simp)
  have hok0 := hid (show okW g 0 ws = true by simp [okW])
  clear hA0 hZ0 hx hp k3 hg hws
  unfold tapeV at CD
  unfold tapeV
  go_enter Try.func20, Try.ntmps20
  go_wp2_with fail
  go_loopw [11, 12, 13, 14, 15] (fun rv iv _ _ _ wr => ∃ (i : Nat), iv = .int .i64 i ∧ i ≤ n ∧ Hid (Blk wr w.heap.size 25 #[.slice a xs.length cap, .int .i64 ((K + used g i ws : Nat) : Int)]) ∧ Hid (Blk wr (w.heap.size + 1) 25 #[.slice none 0 0, .int .i64 0]) ∧ Ext w wr ∧ Hid (okW g i ws = true) ∧
    Hid (wr.ownsRow (w.heap.size + 2) 22 1 rv i (((numsW g i ws).map fun x => x % p).map (Value.int .u64))) ∧ Hid (w.heap.size + 2 ≤ wr.heap.size)) (fun _ iv _ _ _ _ => n - (intOf iv).toNat)
  case atStart => exact ⟨0, rfl, Nat.zero_le _, HA0, HZ0, (by repeat (first | exact Ext.refl _ | assumption | refine Ext.drew ?_ | refine Ext.drewN ?_ _ | refine Ext.alloc ?_ _ | refine Ext.trans ?_ (by assumption))), hok0, hid (by simpa [numsW] using World.ownsRow_nil _ _ _ _), hsz⟩
  case round =>
    clear HA0 HZ0 hok0 hsz
    obtain ⟨i, rfl, hin, HA, HZ, hw, HO, hrow, hsz⟩ := hrel
    rename World => wr
    obtain ⟨J, hJ⟩ : ∃ J, K + used g i ws = J := ⟨_, rfl⟩
    rw [hJ] at HA
    have HJ := hid hJ
    obtain ⟨b0, b1⟩ := HA.out.at2
    have fA0 := HA.out.frozen 0
    have fA1 := HA.out.frozen 1
    obtain ⟨ar, cr, rfl, -, -, -, -⟩ := WRow.of_owns hrow.out
    have hJl : J ≤ xs.length := by have := used_le (g := g) ws i; have := hwl.out; omega
    clear hJ
    by_cases hlt : i < n
    · have hD := hid (show xs.drop J = ws.drop (used g i ws) by rw [← HJ.out, ← HWS.out, List.drop_drop])
      have CC := hid fun (W : World) (hW : Ext wr W) => CD.out J W (hw.trans hW) hJl
      unfold RetR1 tapeV at CC
      obtain ⟨J', hJ'⟩ : ∃ J', J + used (goodB p s) 1 (xs.drop J) = J' := ⟨_, rfl⟩
      obtain ⟨E, hE⟩ : ∃ E, rE (goodB p s) 1 J xs = E := ⟨_, rfl⟩
      obtain ⟨X, hX⟩ : ∃ X, r1X p s J xs = X := ⟨_, rfl⟩
      rw [hJ', hE, hX] at CC
      have hJn := hid (show K + used g (i + 1) ws = J' by rw [used_add, ← hJ', HG.out, hD.out, ← HJ.out]; omega)
      have hOn := ok_next HO.out
      have hNn := nums_next g ws i
      have hEE : E = if okW g (i + 1) ws then 0 else 9 := by rw [← hE, rE, hD.out, HG.out, hOn]
      have hXX : X = ((numsW g 1 (ws.drop (used g i ws))).map (fun x => x % p)).getD 0 0 := by rw [← hX, r1X, hD.out, HG.out]
      have HA1 := hid (fun (W : World) (hW : Ext wr W) => (HA.out.ext hW))
      have HZ1 := hid (fun (W : World) (hW : Ext wr W) => (HZ.out.ext hW))
      have hO1 := hid (fun (W : World) (hW : Ext wr W) => ownsRow_ext hrow.out hW)
      clear hJ' hE hX
      cases hO : okW g (i + 1) ws with
      | false =>
        rw [hO] at hEE
        obtain rfl : E = 9 := hEE
        have hsh := hid (ok_short hO hlt)
        have hsh1 := hid (ok_short hO (Nat.le_refl _))
        have hfin := hid (show K + used g n ws = J' by rw [← hJn.out, hsh.out.2, hsh1.out.2])
        have hr1 := hid (show rL p s n K xs = [] by unfold rL; rw [HG.out, HWS.out, hsh.out.1]; rfl)
        have hr2 := hid (show rE (goodB p s) n K xs = 9 by unfold rE; rw [HG.out, HWS.out, hsh.out.1]; rfl)
        clear hO hOn hNn hXX
        go_wp2_with (go_at_call 18; refine (CC.out _ (Ext.refl _)).mono ?_; rintro _ w1 ⟨rfl, x1⟩
                     have x2 := x1.alloc (.cells #[.slice a xs.length cap, .int .i64 (J' : Int)] 25)
                     obtain ⟨q0, q1⟩ := (Blk.new w1 25 #[.slice a xs.length cap, .int .i64 (J' : Int)]).at2
                     obtain ⟨r0, r1⟩ := (HA1.out _ x2).at2
                     have f0 := (HA1.out _ x2).frozen 0
                     have f1 := (HA1.out _ x2).frozen 1
                     have HA2 := hid ((HA1.out _ x2).put2 (.slice a xs.length cap) (.int .i64 (J' : Int)))
                     obtain ⟨s0, s1⟩ := HA2.out.at2
                     have HZ2 := hid (((HZ1.out _ x2).two (g' := w.heap.size) 0 (.slice a xs.length cap) (by omega)).two (g' := w.heap.size) 1 (.int .i64 (J' : Int)) (by omega))
                     obtain ⟨z0, z1⟩ := HZ2.out.at2
                     have y0 := HZ2.out.frozen 0
                     have y1 := HZ2.out.frozen 1)
        go_region
        go_wp2_with fail
        refine bodyPost_ret (results_tmp_cell_tmp rfl _ _ (w.heap.size + 1) 25 _ (0, 0) _ rfl (HZ2.out.put2 _ _) Try.underlying25 rfl (by kernel_rfl)) rfl ?_
        exact ⟨.slice none 0 0, by rw [hr2.out, HG.out, HWS.out, hfin.out]; rfl, by rw [hr1.out]; exact Ints.nil, (((((hw.trans x2).setCell (by simp) _).setCell (by simp) _).setCell (by simp) _).setCell (by simp) _).drew⟩
      | true =>
        rw [hO] at hEE
        obtain rfl : E = 0 := hEE
        have hnums := hid (show (((numsW g i ws).map fun x => x % p).map (Value.int .u64)) ++ [Value.int .u64 X] = (((numsW g (i + 1) ws).map fun x => x % p).map (Value.int .u64)) by
          have hl1 : (numsW g 1 (ws.drop (used g i ws))).length = 1 := by
            rw [hO] at hOn
            unfold okW at hOn
            have h2 : 1 ≤ ((ws.drop (used g i ws)).filter g).length := by simpa using hOn.symm
            unfold numsW; rw [List.length_take]; omega
          rw [hNn, List.map_append, List.map_append]
          match h1 : numsW g 1 (ws.drop (used g i ws)), hl1 with
          | [x0], _ => rw [hXX, h1]; rfl)
        have HO1 := hid hO
        clear hO hOn hNn hXX
        go_wp2_with (first
          | (go_at_call 18; refine (CC.out _ (Ext.refl _)).mono ?_; rintro _ w1 ⟨rfl, x1⟩
             have x2 := x1.alloc (.cells #[.slice a xs.length cap, .int .i64 (J' : Int)] 25)
             obtain ⟨q0, q1⟩ := (Blk.new w1 25 #[.slice a xs.length cap, .int .i64 (J' : Int)]).at2
             obtain ⟨r0, r1⟩ := (HA1.out _ x2).at2
             have f0 := (HA1.out _ x2).frozen 0
             have f1 := (HA1.out _ x2).frozen 1
             have HA2 := hid ((HA1.out _ x2).put2 (.slice a xs.length cap) (.int .i64 (J' : Int)))
             have HZ2 := hid (((HZ1.out _ x2).two (g' := w.heap.size) 0 (.slice a xs.length cap) (by omega)).two (g' := w.heap.size) 1 (.int .i64 (J' : Int)) (by omega))
             have HR2 := hid (own_set (own_set (hO1.out _ x2) (HA1.out _ x2) (by decide) 0 (.slice a xs.length cap)) ((HA1.out _ x2).set_ 0 (.slice a xs.length cap)) (by decide) 1 (.int .i64 (J' : Int)))
             have HX2 := hid (((hw.trans x2).setCell (p := ⟨w.heap.size, 0, none⟩) (Nat.le_refl _) (.slice a xs.length cap)).setCell (p := ⟨w.heap.size, 1, none⟩) (Nat.le_refl _) (.int .i64 (J' : Int)))
             have hS2 := hid (show w.heap.size + 2 ≤ ((((w1.alloc (.cells #[.slice a xs.length cap, .int .i64 (J' : Int)] 25)).setCell ⟨w.heap.size, 0, none⟩ (.slice a xs.length cap)).setCell ⟨w.heap.size, 1, none⟩ (.int .i64 (J' : Int))).heap.size) by have := x1.size; have := hsz.out; simp [World.setCell]; omega))
          | (at_builtin; refine wpList_append_own _ rfl _ _ 23 rfl (w.heap.size + 2) 22 i0 (.int .u64 0) 1 8 Try.underlying23 hi hz0 hz1 hz2 rfl (by decide) _ _ _ rfl (HR2.out.alloc _) ⟨_, 0, none⟩ 1 1 [.int .u64 X] rfl rfl (cells_new _ _ _ (by simp)) (by simp [Value.oneCell']) (by simp only [maxLen]; omega) (by omega) (by have := hS2.out; simp at this ⊢; omega) ?_
             intro v6 w6 hown6 hgrow6 hat6)
          | fail)
        have hne : ∀ b, b < w.heap.size + 2 → (Value.slice ar i cr).ownBlock ≠ some b := fun b hb e => by have := (HR2.out.lt b e).1; omega
        rw [hnums.out] at hown6
        go_roundw
        case rel => exact ⟨i + 1, by go_num, by omega, by rw [hJn.out]; exact hid ((HA2.out.ext ((Ext.refl _).alloc _)).grown hgrow6 (hne _ (by omega))), hid ((HZ2.out.ext ((Ext.refl _).alloc _)).grown hgrow6 (hne _ (by omega))), (HX2.out.alloc _).grown hgrow6 (fun b e => by have := (HR2.out.lt b e).1; omega), HO1, hid hown6, hid (by have := hgrow6.size; have := hS2.out; simp at *; omega)⟩
        case measure => simp [intOf]; omega
    · obtain rfl : i = n := by omega
      have hr1 := hid (show rL p s i K xs = (numsW g i ws).map (fun x => x % p) by unfold rL; rw [HG.out, HWS.out, HO.out]; rfl)
      have hr2 := hid (show rE (goodB p s) i K xs = 0 by unfold rE; rw [HG.out, HWS.out, HO.out]; rfl)
      obtain ⟨z0, z1⟩ := HZ.out.at2
      have y0 := HZ.out.frozen 0
      have y1 := HZ.out.frozen 1
      go_wp2_with fail
      go_region
      go_wp2_with fail
      refine bodyPost_ret (results_tmp_cell_tmp rfl _ _ (w.heap.size + 1) 25 _ (0, 0) _ rfl (HZ.out.put2 _ _) Try.underlying25 rfl (by kernel_rfl)) rfl ?_
      exact ⟨.slice ar i cr, by rw [hr2.out, HG.out, HWS.out, HJ.out]; rfl, by rw [hr1.out]; exact (own_ints (own_set (own_set hrow.out HZ.out (by decide) 0 _) (HZ.out.set_ 0 _) (by decide) 1 _)).ext ((Ext.refl _).drew), ((hw.setCell (by simp) _).setCell (by simp) _).drew⟩
end Go.Proofs.Ytcganfmlfoebpaa
