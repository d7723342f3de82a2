/- Package matrix: Times' answer is a row of its own, that may be written. -/
import Derived.Test.YtfpmcajndgkgeaaBun12
namespace Go.Proofs.Ytfpmcajndgkgeaa
open Go.RowKit Go.Maps

set_option maxRecDepth 100000 in
set_option maxHeartbeats 1000000 in
theorem mxTimesW (p : Int) (m n : Nat) (v u : Value) (xs ys : List Int) (w : World) (ok : MatOk p m n xs) (hv : Ints .u64 w v xs) (hu : Ints .u64 w u ys) (hy : Rng p ys) (hyl : ys.length = n) :
    Calls Try.prog 52 #[.int .u64 p, matV m n v, u] w fun e w' => ∃ g, e = .returned (.tuple #[.slice (some ⟨g, 0, none⟩) m m, .int .i64 0]) ∧ w.heap.size ≤ g ∧ WRow w' g 0 (timesL p m n xs ys) ∧ Ext w w' := by
  have hp2 := rightB_true ok.hp
  have C1 := hid fun (W : World) (hW : Ext w W) => mxRight p m n v xs W (by omega) (by omega) (hv.ext hW) ok.u64
  have C2 := hid fun (W : World) (hW : Ext w W) => mxVector p n u ys W (by omega) (by omega) (hu.ext hW) (hy.u64 hp2.2)
  rw [ok.b] at C1
  rw [vecB_yes ok.hp hy hyl] at C2
  have Ok := hid ok; have Hv := hid hv; have Hu := hid hu; have Hy := hid hy; have Hyl := hid hyl
  have hm := ok.hm; have hn := ok.hn
  obtain ⟨a, cap, rfl, k1, k2, k3⟩ := hv
  obtain ⟨b, off, rfl, hb, k4⟩ := k3 ok.pos
  have hcap := hid fun (i : Nat) (h : i < m) => Nat.le_trans (ok.at_ h) k1
  clear k3 k4 hu hy hyl ok
  obtain ⟨F, hF⟩ : ∃ F : Nat → Int, (fun i => dv p n (fun k => xs.getD (i * n + k) 0) fun k => ys.getD k 0) = F := ⟨_, rfl⟩
  have HF := hid (fun i => (congrFun hF i : dv p n (fun k => xs.getD (i * n + k) 0) (fun k => ys.getD k 0) = F i))
  unfold timesL
  rw [hF]
  clear hF
  have hmk := make_ints (P := Try.prog) 23 22 .u64 8 (by omega) (by kernel_rfl) (by kernel_rfl) m m (Nat.le_refl _) (by omega)
  have hbox := hid (box3 w 25 (.int .i64 (m : Int)) (.int .i64 (n : Int)) (.slice (some ⟨b, off, none⟩) xs.length cap))
  have hx0 : Ext w (w.alloc (.cells #[.int .i64 (m : Int), .int .i64 (n : Int), .slice (some ⟨b, off, none⟩) xs.length cap] 25)) := (Ext.refl w).alloc _
  have hrl := hid (List.length_replicate (n := m) (a := (0 : Int)))
  unfold matV at C1
  unfold matV
  go_enter Try.func52, Try.ntmps52
  go_wp2_with (first
    | (go_at_call 39; refine (C1.out _ (by repeat (first | exact Ext.refl _ | assumption | refine Ext.drew ?_ | refine Ext.drewN ?_ _ | refine Ext.alloc ?_ _ | refine Ext.trans ?_ (by assumption)))).mono ?_; rintro _ w1 ⟨rfl, x1⟩; obtain ⟨b0, b1, b2⟩ := hbox.out w1 x1)
    | (go_at_call 110; refine (C2.out _ (hx0.trans x1)).mono ?_; rintro _ _ ⟨rfl, rfl⟩))
  have hrow := hid (WRow.made (w := w1) (t := 22) (n := m) rfl)
  obtain ⟨g, hg⟩ : ∃ g, w1.heap.size = g := ⟨_, rfl⟩
  have hgw : w1.heap.size ≤ g := by omega
  obtain ⟨w2, hw2⟩ : ∃ w2, w1.alloc (.cells (madeCells #[Value.int .u64 0] m) 22) = w2 := ⟨_, rfl⟩
  have hx2 : Ext w1 w2 := hw2 ▸ (Ext.refl w1).alloc _
  rw [hg, hw2] at hrow
  rw [hg, hw2]
  clear hg hw2 hmk b0 b1 b2
  go_loopw [27] (fun i wr => ∃ (k : Nat) (l : List Int), i = .int .i64 k ∧ k ≤ m ∧ Hid (l.length = m) ∧ Hid (∀ j, l.getD j 0 = if j < k then F j else 0) ∧ Hid (WRow wr g 0 l) ∧ Ext w1 wr) (fun i _ => m - (intOf i).toNat)
  case atStart => exact ⟨0, _, rfl, Nat.zero_le _, hrl, hid (fun j => by rw [replicate_get]; simp), hrow, hx2⟩
  case round =>
    obtain ⟨k, l, rfl, hk, hln, hl2, Hrw, hxw⟩ := hrel
    clear hx2
    obtain ⟨b0, b1, b2⟩ := hbox.out wr (x1.trans hxw)
    by_cases hlt : k < m
    · have hck := hcap.out k hlt
      have hfk := HF.out k
      obtain ⟨z, hz⟩ : ∃ z, F k = z := ⟨_, rfl⟩
      rw [hz] at hfk
      have hdot := hid ((dot_piece (p := p) (Ok.out.at_ hlt) Hyl.out).trans hfk)
      have Hz := hid hz
      clear hz hfk
      go_wp2_with fail
      refine (mxRow (m : Int) (n : Int) n k b off xs.length cap wr rfl hn (by omega) hck k2).mono ?_
      rintro _ w3 ⟨rfl, x3⟩
      go_wp2_with fail
      refine (dot_as p z _ u (piece xs k n) ys w3 ((Hv.out.ext ((hx0.trans x1).trans (hxw.trans x3))).sub (k * n) n (Ok.out.at_ hlt) hn.1) (Hu.out.ext ((hx0.trans x1).trans (hxw.trans x3))) ((piece_rng Ok.out.hx k n).u64 hp2.2) (Hy.out.u64 hp2.2) (by rw [piece_len (Ok.out.at_ hlt), Hyl.out]) ((piece_rng Ok.out.hx k n).has Ok.out.hp) (Hy.out.has Ok.out.hp) hdot.out).mono ?_
      rintro _ w4 ⟨rfl, x4⟩
      have g2 := ((Hrw.out.ext (x3.trans x4)).2 k (by rw [hln.out]; omega)).1
      have f2 := ((Hrw.out.ext (x3.trans x4)).2 k (by rw [hln.out]; omega)).2
      rw [Nat.zero_add] at g2 f2
      go_wp2_with fail
      go_roundw
      case rel =>
        have hs := (Hrw.out.ext (x3.trans x4)).set_ (i := k) (by rw [hln.out]; omega) z
        rw [Nat.zero_add] at hs
        refine ⟨k + 1, l.set k z, by go_num, by omega, hid (by rw [List.length_set]; exact hln.out), hid (fun j => ?_), hid hs, (hxw.trans (x3.trans x4)).setCell (p := ⟨g, k, none⟩) hgw _⟩
        rw [set_get l k j z (by rw [hln.out]; omega), hl2.out]
        by_cases e : k = j
        · subst e
          rw [if_pos rfl, if_pos (by omega), Hz.out]
        · rw [if_neg e]
          by_cases e2 : j < k
          · rw [if_pos e2, if_pos (by omega)]
          · rw [if_neg e2, if_neg (by omega)]
      case measure => simp [intOf]; omega
    · obtain rfl : m = k := by omega
      go_wp2_with fail
      go_ret2
      have e : l = tab m F := tab_of hln.out fun j hj => by rw [hl2.out, if_pos hj]
      exact ⟨g, rfl, by have := (hx0.trans x1).size; omega, e ▸ Hrw.out, hx0.trans (x1.trans hxw)⟩
end Go.Proofs.Ytfpmcajndgkgeaa
