/- Package matrix: Right, Times. -/
import Derived.Test.YtalkbmnbggclpaaMx1
import Derived.Test.YtalkbmnbggclpaaMatL
namespace Go.Proofs.Ytalkbmnbggclpaa
open Go.RowKit Go.Maps

theorem mxRight (p r c : Int) (v : Value) (xs : List Int) (w : World) (h0 : 0 ≤ p) (h1 : p ≤ 18446744073709551615) (hv : Ints .u64 w v xs) (hx : U64s xs) :
    Calls Try.prog 47 #[.int .u64 p, matV r c v] w (Ret (.bool (matB p r c xs)) w) := by
  have hh := fun (W : World) (hW : Ext w W) => has_any p v xs W h0 h1 (hv.ext hW) hx
  obtain ⟨R, hR⟩ : ∃ R, matB p r c xs = R := ⟨_, rfl⟩
  rw [hR]
  unfold matB at hR
  obtain ⟨B, hB⟩ : ∃ B, hasB p xs = B := ⟨_, rfl⟩
  rw [hB] at hR hh
  obtain ⟨a, cap, rfl, hc1, hc2, hc⟩ := hv
  have Hh := hid hh
  clear hB hh hc hx
  unfold matV
  by_cases g1 : 1 ≤ r ∧ r ≤ 64
  · rw [decide_eq_true g1, Bool.true_and] at hR
    have s1 : sideB r = true := decide_eq_true g1
    by_cases g2 : 1 ≤ c ∧ c ≤ 64
    · rw [decide_eq_true g2, Bool.true_and] at hR
      have s2 : sideB c = true := decide_eq_true g2
      have q1 : 0 ≤ r * c := Int.mul_nonneg (by omega) (by omega)
      have q2 : r * c ≤ 64 * 64 := Int.mul_le_mul g1.2 g2.2 (by omega) (by omega)
      obtain ⟨q, hq⟩ : ∃ q, r * c = q := ⟨_, rfl⟩
      rw [hq] at hR q1 q2
      clear g1 g2
      by_cases g5 : (xs.length : Int) = q
      · rw [decide_eq_true g5, Bool.true_and] at hR
        subst hR
        have b5 : ((xs.length : Int) == q) = true := by simp [g5]
        clear g5
        go_enter Try.func47, Try.ntmps47
        go_wp2_with (first
          | (go_at_call 54; refine (mxSides _ _ _).mono ?_; rintro _ _ ⟨rfl, rfl⟩)
          | (go_at_call 55; refine (Hh.out _ (by repeat (first | exact Ext.refl _ | assumption | refine Ext.drew ?_ | refine Ext.drewN ?_ _ | refine Ext.alloc ?_ _ | refine Ext.trans ?_ (by assumption)))).mono ?_; rintro _ _ ⟨rfl, rfl⟩))
        go_ret
        exact ⟨rfl, (by repeat (first | exact Ext.refl _ | assumption | refine Ext.drew ?_ | refine Ext.drewN ?_ _ | refine Ext.alloc ?_ _ | refine Ext.trans ?_ (by assumption)))⟩
      · rw [decide_eq_false g5, Bool.false_and] at hR
        subst hR
        have b5 : ((xs.length : Int) == q) = false := by simp [g5]
        clear g5
        go_enter Try.func47, Try.ntmps47
        go_wp2_with (go_at_call 54; refine (mxSides _ _ _).mono ?_; rintro _ _ ⟨rfl, rfl⟩)
        go_ret
        exact ⟨rfl, (by repeat (first | exact Ext.refl _ | assumption | refine Ext.drew ?_ | refine Ext.drewN ?_ _ | refine Ext.alloc ?_ _ | refine Ext.trans ?_ (by assumption)))⟩
    · rw [decide_eq_false g2, Bool.false_and] at hR
      subst hR
      have s2 : sideB c = false := decide_eq_false g2
      clear g1 g2
      go_enter Try.func47, Try.ntmps47
      go_wp2_with (go_at_call 54; refine (mxSides _ _ _).mono ?_; rintro _ _ ⟨rfl, rfl⟩)
      go_ret
      exact ⟨rfl, (by repeat (first | exact Ext.refl _ | assumption | refine Ext.drew ?_ | refine Ext.drewN ?_ _ | refine Ext.alloc ?_ _ | refine Ext.trans ?_ (by assumption)))⟩
  · rw [decide_eq_false g1, Bool.false_and] at hR
    subst hR
    have s1 : sideB r = false := decide_eq_false g1
    clear g1
    go_enter Try.func47, Try.ntmps47
    go_wp2_with (go_at_call 54; refine (mxSides _ _ _).mono ?_; rintro _ _ ⟨rfl, rfl⟩)
    go_ret
    exact ⟨rfl, (by repeat (first | exact Ext.refl _ | assumption | refine Ext.drew ?_ | refine Ext.drewN ?_ _ | refine Ext.alloc ?_ _ | refine Ext.trans ?_ (by assumption)))⟩

/-- a right matrix of m rows and n columns, all told over Nat -/
structure MatOk (p : Int) (m n : Nat) (xs : List Int) : Prop where
  hp : rightB p = true
  hx : Rng p xs
  hm : 1 ≤ m ∧ m ≤ 64
  hn : 1 ≤ n ∧ n ≤ 64
  hl : xs.length = m * n
theorem MatOk.u64 {p : Int} {m n : Nat} {xs : List Int} (h : MatOk p m n xs) : U64s xs := h.hx.u64 (rightB_true h.hp).2
theorem MatOk.b {p : Int} {m n : Nat} {xs : List Int} (h : MatOk p m n xs) : matB p m n xs = true := (matB_iff h.u64).2 ⟨h.hp, h.hx, m, n, rfl, rfl, h.hm.1, h.hm.2, h.hn.1, h.hn.2, h.hl⟩
theorem MatOk.of {p r c : Int} {xs : List Int} (hx : U64s xs) (h : matB p r c xs = true) : ∃ m n : Nat, r = m ∧ c = n ∧ MatOk p m n xs := by
  obtain ⟨h1, h2, m, n, rfl, rfl, h3, h4, h5, h6, h7⟩ := (matB_iff hx).1 h
  exact ⟨m, n, rfl, rfl, h1, h2, ⟨h3, h4⟩, ⟨h5, h6⟩, h7⟩
theorem MatOk.pos {p : Int} {m n : Nat} {xs : List Int} (h : MatOk p m n xs) : 0 < xs.length := by rw [h.hl]; exact Nat.mul_pos h.hm.1 h.hn.1
theorem MatOk.at_ {p : Int} {m n : Nat} {xs : List Int} (h : MatOk p m n xs) {i : Nat} (hi : i < m) : i * n + n ≤ xs.length := by
  rw [h.hl, ← Nat.succ_mul]; exact Nat.mul_le_mul_right _ hi
/-- row i -/
def piece (xs : List Int) (i n : Nat) : List Int := (xs.drop (i * n)).take n
theorem piece_len {xs : List Int} {i n : Nat} (h : i * n + n ≤ xs.length) : (piece xs i n).length = n := by simp [piece]; omega
theorem piece_get (xs : List Int) (i n k : Nat) (h : k < n) : (piece xs i n).getD k 0 = xs.getD (i * n + k) 0 := sub_get xs _ n k h
theorem piece_rng {p : Int} {xs : List Int} (h : Rng p xs) (i n : Nat) : Rng p (piece xs i n) := fun x hx => h x (List.mem_of_mem_drop (List.mem_of_mem_take hx))
theorem piece_tab {xs : List Int} {i n : Nat} (h : i * n + n ≤ xs.length) : piece xs i n = tab n fun k => xs.getD (i * n + k) 0 := tab_of (piece_len h) fun k hk => piece_get xs i n k hk
theorem dot_piece {p : Int} {xs ys : List Int} {i n : Nat} (h : i * n + n ≤ xs.length) (hy : ys.length = n) : dotZ (piece xs i n) ys % p = dv p n (fun k => xs.getD (i * n + k) 0) fun k => ys.getD k 0 := by
  rw [dv_dotZ (piece_len h) hy]
  exact dv_congr (fun k hk => piece_get xs i n k hk) fun _ _ => rfl
theorem vecB_yes {p : Int} {n : Nat} {ys : List Int} (hp : rightB p = true) (hy : Rng p ys) (hl : ys.length = n) : vecB p n ys = true := by
  unfold vecB
  rw [hl, hy.has hp, decide_eq_true rfl]; rfl
theorem vecB_true {p c : Int} {ys : List Int} (hu : U64s ys) (h : vecB p c ys = true) : rightB p = true ∧ Rng p ys ∧ (ys.length : Int) = c := by
  unfold vecB at h
  rw [Bool.and_eq_true, decide_eq_true_eq] at h
  obtain ⟨h5, h6⟩ := hasB_true h.2
  exact ⟨h5, fun x hx' => ⟨(hu x hx').1, h6 x hx'⟩, h.1⟩
/-- what a call answers: numbers, and that all is well -/
def RetV (l : List Int) (w : World) (e : Ending) (w' : World) : Prop := ∃ v, e = .returned (.tuple #[v, .int .i64 0]) ∧ Ints .u64 w' v l ∧ Ext w w'
/-- .. a matrix -/
def RetN (r c : Int) (l : List Int) (w : World) (e : Ending) (w' : World) : Prop := ∃ u, e = .returned (.tuple #[matV r c u, .int .i64 0]) ∧ Ints .u64 w' u l ∧ Ext w w'

theorem mxTimes_no (p r c : Int) (v u : Value) (xs ys : List Int) (w : World) (h0 : 0 ≤ p) (h1 : p ≤ 18446744073709551615) (hv : Ints .u64 w v xs) (hx : U64s xs) (hu : Ints .u64 w u ys) (hy : U64s ys) (h : (matB p r c xs && vecB p c ys) = false) :
    Calls Try.prog 28 #[.int .u64 p, matV r c v, u] w (Ret (.tuple #[.slice none 0 0, .int .i64 1]) w) := by
  have C1 := hid fun (W : World) (hW : Ext w W) => mxRight p r c v xs W h0 h1 (hv.ext hW) hx
  have C2 := hid fun (W : World) (hW : Ext w W) => mxVector p c u ys W h0 h1 (hu.ext hW) hy
  obtain ⟨a, cap, rfl, k1, k2, k3⟩ := hv
  clear k3 hu hx hy
  have hbox := hid (box3 w 25 (.int .i64 r) (.int .i64 c) (.slice a xs.length cap))
  unfold matV at C1
  unfold matV
  cases g1 : matB p r c xs
  · rw [g1] at C1
    clear h g1
    go_enter Try.func28, Try.ntmps28
    go_wp2_with (go_at_call 47; refine (C1.out _ (by repeat (first | exact Ext.refl _ | assumption | refine Ext.drew ?_ | refine Ext.drewN ?_ _ | refine Ext.alloc ?_ _ | refine Ext.trans ?_ (by assumption)))).mono ?_; rintro _ w1 ⟨rfl, x1⟩)
    go_ret2
    exact ⟨rfl, Ext.trans (by repeat (first | exact Ext.refl _ | assumption | refine Ext.drew ?_ | refine Ext.drewN ?_ _ | refine Ext.alloc ?_ _ | refine Ext.trans ?_ (by assumption))) x1⟩
  · rw [g1, Bool.true_and] at h
    rw [g1] at C1
    rw [h] at C2
    clear h g1
    go_enter Try.func28, Try.ntmps28
    go_wp2_with (first
      | (go_at_call 47; refine (C1.out _ (by repeat (first | exact Ext.refl _ | assumption | refine Ext.drew ?_ | refine Ext.drewN ?_ _ | refine Ext.alloc ?_ _ | refine Ext.trans ?_ (by assumption)))).mono ?_; rintro _ w1 ⟨rfl, x1⟩; obtain ⟨b0, b1, b2⟩ := hbox.out w1 x1)
      | (go_at_call 48; refine (C2.out _ (Ext.trans (by repeat (first | exact Ext.refl _ | assumption | refine Ext.drew ?_ | refine Ext.drewN ?_ _ | refine Ext.alloc ?_ _ | refine Ext.trans ?_ (by assumption))) x1)).mono ?_; rintro _ _ ⟨rfl, rfl⟩))
    go_ret2
    exact ⟨rfl, Ext.trans (by repeat (first | exact Ext.refl _ | assumption | refine Ext.drew ?_ | refine Ext.drewN ?_ _ | refine Ext.alloc ?_ _ | refine Ext.trans ?_ (by assumption))) x1⟩

set_option maxRecDepth 100000 in
set_option maxHeartbeats 1000000 in
theorem mxTimes_yes (p : Int) (m n : Nat) (v u : Value) (xs ys : List Int) (w : World) (ok : MatOk p m n xs) (hv : Ints .u64 w v xs) (hu : Ints .u64 w u ys) (hy : Rng p ys) (hyl : ys.length = n) :
    Calls Try.prog 28 #[.int .u64 p, matV m n v, u] w (RetV (timesL p m n xs ys) w) := by
  have hp2 := rightB_true ok.hp
  have C1 := hid fun (W : World) (hW : Ext w W) => mxRight p m n v xs W (by omega) (by omega) (hv.ext hW) ok.u64
  have C2 := hid fun (W : World) (hW : Ext w W) => mxVector p n u ys W (by omega) (by omega) (hu.ext hW) (hy.u64 hp2.2)
  rw [ok.b] at C1
  rw [vecB_yes ok.hp hy hyl] at C2
  have Ok := hid ok; have Hv := hid hv; have Hu := hid hu; have Hy := hid hy; have Hyl := hid hyl
  have hm := ok.hm; have hn := ok.hn
  obtain ⟨a, cap, rfl, k1, k2, k3⟩ := hv
  obtain ⟨b, off, rfl, hb, k4⟩ := k3 ok.pos
  have hcap := hid fun (i : Nat) (h : i < m) => Nat.le_trans (ok.at_ h) k1
  clear k3 k4 hu hy hyl ok
  obtain ⟨F, hF⟩ : ∃ F : Nat → Int, (fun i => dv p n (fun k => xs.getD (i * n + k) 0) fun k => ys.getD k 0) = F := ⟨_, rfl⟩
  have HF := hid (fun i => (congrFun hF i : dv p n (fun k => xs.getD (i * n + k) 0) (fun k => ys.getD k 0) = F i))
  unfold timesL
  rw [hF]
  clear hF
  have hmk := make_ints (P := Try.prog) 23 55 .u64 8 (by omega) (by kernel_rfl) (by kernel_rfl) m m (Nat.le_refl _) (by omega)
  have hbox := hid (box3 w 25 (.int .i64 (m : Int)) (.int .i64 (n : Int)) (.slice (some ⟨b, off, none⟩) xs.length cap))
  have hx0 : Ext w (w.alloc (.cells #[.int .i64 (m : Int), .int .i64 (n : Int), .slice (some ⟨b, off, none⟩) xs.length cap] 25)) := (Ext.refl w).alloc _
  have hrl := hid (List.length_replicate (n := m) (a := (0 : Int)))
  unfold matV at C1
  unfold matV
  go_enter Try.func28, Try.ntmps28
  go_wp2_with (first
    | (go_at_call 47; refine (C1.out _ (by repeat (first | exact Ext.refl _ | assumption | refine Ext.drew ?_ | refine Ext.drewN ?_ _ | refine Ext.alloc ?_ _ | refine Ext.trans ?_ (by assumption)))).mono ?_; rintro _ w1 ⟨rfl, x1⟩; obtain ⟨b0, b1, b2⟩ := hbox.out w1 x1)
    | (go_at_call 48; refine (C2.out _ (hx0.trans x1)).mono ?_; rintro _ _ ⟨rfl, rfl⟩))
  have hrow := hid (WRow.made (w := w1) (t := 55) (n := m) rfl)
  obtain ⟨g, hg⟩ : ∃ g, w1.heap.size = g := ⟨_, rfl⟩
  have hgw : w1.heap.size ≤ g := by omega
  obtain ⟨w2, hw2⟩ : ∃ w2, w1.alloc (.cells (madeCells #[Value.int .u64 0] m) 55) = w2 := ⟨_, rfl⟩
  have hx2 : Ext w1 w2 := hw2 ▸ (Ext.refl w1).alloc _
  rw [hg, hw2] at hrow
  rw [hg, hw2]
  clear hg hw2 hmk b0 b1 b2
  go_loopw [27] (fun i wr => ∃ (k : Nat) (l : List Int), i = .int .i64 k ∧ k ≤ m ∧ Hid (l.length = m) ∧ Hid (∀ j, l.getD j 0 = if j < k then F j else 0) ∧ Hid (WRow wr g 0 l) ∧ Ext w1 wr) (fun i _ => m - (intOf i).toNat)
  case atStart => exact ⟨0, _, rfl, Nat.zero_le _, hrl, hid (fun j => by rw [replicate_get]; simp), hrow, hx2⟩
  case round =>
    obtain ⟨k, l, rfl, hk, hln, hl2, Hrw, hxw⟩ := hrel
    clear hx2
    obtain ⟨b0, b1, b2⟩ := hbox.out wr (x1.trans hxw)
    by_cases hlt : k < m
    · have hck := hcap.out k hlt
      have hfk := HF.out k
      obtain ⟨z, hz⟩ : ∃ z, F k = z := ⟨_, rfl⟩
      rw [hz] at hfk
      have hdot := hid ((dot_piece (p := p) (Ok.out.at_ hlt) Hyl.out).trans hfk)
      have Hz := hid hz
      clear hz hfk
      go_wp2_with fail
      refine (mxRow (m : Int) (n : Int) n k b off xs.length cap wr rfl hn (by omega) hck k2).mono ?_
      rintro _ w3 ⟨rfl, x3⟩
      go_wp2_with fail
      refine (dot_as p z _ u (piece xs k n) ys w3 ((Hv.out.ext ((hx0.trans x1).trans (hxw.trans x3))).sub (k * n) n (Ok.out.at_ hlt) hn.1) (Hu.out.ext ((hx0.trans x1).trans (hxw.trans x3))) ((piece_rng Ok.out.hx k n).u64 hp2.2) (Hy.out.u64 hp2.2) (by rw [piece_len (Ok.out.at_ hlt), Hyl.out]) ((piece_rng Ok.out.hx k n).has Ok.out.hp) (Hy.out.has Ok.out.hp) hdot.out).mono ?_
      rintro _ w4 ⟨rfl, x4⟩
      have g2 := ((Hrw.out.ext (x3.trans x4)).2 k (by rw [hln.out]; omega)).1
      have f2 := ((Hrw.out.ext (x3.trans x4)).2 k (by rw [hln.out]; omega)).2
      rw [Nat.zero_add] at g2 f2
      go_wp2_with fail
      go_roundw
      case rel =>
        have hs := (Hrw.out.ext (x3.trans x4)).set_ (i := k) (by rw [hln.out]; omega) z
        rw [Nat.zero_add] at hs
        refine ⟨k + 1, l.set k z, by go_num, by omega, hid (by rw [List.length_set]; exact hln.out), hid (fun j => ?_), hid hs, (hxw.trans (x3.trans x4)).setCell (p := ⟨g, k, none⟩) hgw _⟩
        rw [set_get l k j z (by rw [hln.out]; omega), hl2.out]
        by_cases e : k = j
        · subst e
          rw [if_pos rfl, if_pos (by omega), Hz.out]
        · rw [if_neg e]
          by_cases e2 : j < k
          · rw [if_pos e2, if_pos (by omega)]
          · rw [if_neg e2, if_neg (by omega)]
      case measure => simp [intOf]; omega
    · obtain rfl : m = k := by omega
      go_wp2_with fail
      go_ret2
      have e : l = tab m F := tab_of hln.out fun j hj => by rw [hl2.out, if_pos hj]
      exact ⟨_, rfl, e ▸ Hrw.out.ints' hln.out (Nat.le_refl _) (by omega), hx0.trans (x1.trans hxw)⟩
end Go.Proofs.Ytalkbmnbggclpaa
