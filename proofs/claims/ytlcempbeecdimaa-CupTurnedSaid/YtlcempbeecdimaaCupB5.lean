/- What the texts Mx2, Mx3, Mx4, Mx5, Mx6, Mx7 show, in one text. -/
import Derived.Test.YtlcempbeecdimaaMx1
import Derived.Test.YtlcempbeecdimaaCupB1
import Derived.Deep.RegionHeld3
/- Package matrix: Right, Times. -/
namespace Go.Proofs.Ytlcempbeecdimaa
open Go.RowKit Go.Maps

theorem mxRight (p r c : Int) (v : Value) (xs : List Int) (w : World) (h0 : 0 ≤ p) (h1 : p ≤ 18446744073709551615) (hv : Ints .u64 w v xs) (hx : U64s xs) :
    Calls Try.prog 11 #[.int .u64 p, matV r c v] w (Ret (.bool (matB p r c xs)) w) := by
  have hh := fun (W : World) (hW : Ext w W) => has_any p v xs W h0 h1 (hv.ext hW) hx
  obtain ⟨R, hR⟩ : ∃ R, matB p r c xs = R := ⟨_, rfl⟩
  rw [hR]
  unfold matB at hR
  obtain ⟨B, hB⟩ : ∃ B, hasB p xs = B := ⟨_, rfl⟩
  rw [hB] at hR hh
  obtain ⟨a, cap, rfl, hc1, hc2, hc⟩ := hv
  have Hh := hid hh
  clear hB hh hc hx
  unfold matV
  by_cases g1 : 1 ≤ r ∧ r ≤ 64
  · rw [decide_eq_true g1, Bool.true_and] at hR
    have s1 : sideB r = true := decide_eq_true g1
    by_cases g2 : 1 ≤ c ∧ c ≤ 64
    · rw [decide_eq_true g2, Bool.true_and] at hR
      have s2 : sideB c = true := decide_eq_true g2
      have q1 : 0 ≤ r * c := Int.mul_nonneg (by omega) (by omega)
      have q2 : r * c ≤ 64 * 64 := Int.mul_le_mul g1.2 g2.2 (by omega) (by omega)
      obtain ⟨q, hq⟩ : ∃ q, r * c = q := ⟨_, rfl⟩
      rw [hq] at hR q1 q2
      clear g1 g2
      by_cases g5 : (xs.length : Int) = q
      · rw [decide_eq_true g5, Bool.true_and] at hR
        subst hR
        have b5 : ((xs.length : Int) == q) = true := by simp [g5]
        clear g5
        go_enter Try.func11, Try.ntmps11
        go_wp2_with (first
          | (go_at_call 28; refine (mxSides _ _ _).mono ?_; rintro _ _ ⟨rfl, rfl⟩)
          | (go_at_call 29; refine (Hh.out _ (by repeat (first | exact Ext.refl _ | assumption | refine Ext.drew ?_ | refine Ext.drewN ?_ _ | refine Ext.alloc ?_ _ | refine Ext.trans ?_ (by assumption)))).mono ?_; rintro _ _ ⟨rfl, rfl⟩))
        go_ret
        exact ⟨rfl, (by repeat (first | exact Ext.refl _ | assumption | refine Ext.drew ?_ | refine Ext.drewN ?_ _ | refine Ext.alloc ?_ _ | refine Ext.trans ?_ (by assumption)))⟩
      · rw [decide_eq_false g5, Bool.false_and] at hR
        subst hR
        have b5 : ((xs.length : Int) == q) = false := by simp [g5]
        clear g5
        go_enter Try.func11, Try.ntmps11
        go_wp2_with (go_at_call 28; refine (mxSides _ _ _).mono ?_; rintro _ _ ⟨rfl, rfl⟩)
        go_ret
        exact ⟨rfl, (by repeat (first | exact Ext.refl _ | assumption | refine Ext.drew ?_ | refine Ext.drewN ?_ _ | refine Ext.alloc ?_ _ | refine Ext.trans ?_ (by assumption)))⟩
    · rw [decide_eq_false g2, Bool.false_and] at hR
      subst hR
      have s2 : sideB c = false := decide_eq_false g2
      clear g1 g2
      go_enter Try.func11, Try.ntmps11
      go_wp2_with (go_at_call 28; refine (mxSides _ _ _).mono ?_; rintro _ _ ⟨rfl, rfl⟩)
      go_ret
      exact ⟨rfl, (by repeat (first | exact Ext.refl _ | assumption | refine Ext.drew ?_ | refine Ext.drewN ?_ _ | refine Ext.alloc ?_ _ | refine Ext.trans ?_ (by assumption)))⟩
  · rw [decide_eq_false g1, Bool.false_and] at hR
    subst hR
    have s1 : sideB r = false := decide_eq_false g1
    clear g1
    go_enter Try.func11, Try.ntmps11
    go_wp2_with (go_at_call 28; refine (mxSides _ _ _).mono ?_; rintro _ _ ⟨rfl, rfl⟩)
    go_ret
    exact ⟨rfl, (by repeat (first | exact Ext.refl _ | assumption | refine Ext.drew ?_ | refine Ext.drewN ?_ _ | refine Ext.alloc ?_ _ | refine Ext.trans ?_ (by assumption)))⟩

/-- a right matrix of m rows and n columns, all told over Nat -/
structure MatOk (p : Int) (m n : Nat) (xs : List Int) : Prop where
  hp : rightB p = true
  hx : Rng p xs
  hm : 1 ≤ m ∧ m ≤ 64
  hn : 1 ≤ n ∧ n ≤ 64
  hl : xs.length = m * n
theorem MatOk.u64 {p : Int} {m n : Nat} {xs : List Int} (h : MatOk p m n xs) : U64s xs := h.hx.u64 (rightB_true h.hp).2
theorem MatOk.b {p : Int} {m n : Nat} {xs : List Int} (h : MatOk p m n xs) : matB p m n xs = true := (matB_iff h.u64).2 ⟨h.hp, h.hx, m, n, rfl, rfl, h.hm.1, h.hm.2, h.hn.1, h.hn.2, h.hl⟩
theorem MatOk.of {p r c : Int} {xs : List Int} (hx : U64s xs) (h : matB p r c xs = true) : ∃ m n : Nat, r = m ∧ c = n ∧ MatOk p m n xs := by
  obtain ⟨h1, h2, m, n, rfl, rfl, h3, h4, h5, h6, h7⟩ := (matB_iff hx).1 h
  exact ⟨m, n, rfl, rfl, h1, h2, ⟨h3, h4⟩, ⟨h5, h6⟩, h7⟩
theorem MatOk.pos {p : Int} {m n : Nat} {xs : List Int} (h : MatOk p m n xs) : 0 < xs.length := by rw [h.hl]; exact Nat.mul_pos h.hm.1 h.hn.1
theorem MatOk.at_ {p : Int} {m n : Nat} {xs : List Int} (h : MatOk p m n xs) {i : Nat} (hi : i < m) : i * n + n ≤ xs.length := by
  rw [h.hl, ← Nat.succ_mul]; exact Nat.mul_le_mul_right _ hi
/-- row i -/
def piece (xs : List Int) (i n : Nat) : List Int := (xs.drop (i * n)).take n
theorem piece_len {xs : List Int} {i n : Nat} (h : i * n + n ≤ xs.length) : (piece xs i n).length = n := by simp [piece]; omega
theorem piece_get (xs : List Int) (i n k : Nat) (h : k < n) : (piece xs i n).getD k 0 = xs.getD (i * n + k) 0 := sub_get xs _ n k h
theorem piece_rng {p : Int} {xs : List Int} (h : Rng p xs) (i n : Nat) : Rng p (piece xs i n) := fun x hx => h x (List.mem_of_mem_drop (List.mem_of_mem_take hx))
theorem piece_tab {xs : List Int} {i n : Nat} (h : i * n + n ≤ xs.length) : piece xs i n = tab n fun k => xs.getD (i * n + k) 0 := tab_of (piece_len h) fun k hk => piece_get xs i n k hk
theorem dot_piece {p : Int} {xs ys : List Int} {i n : Nat} (h : i * n + n ≤ xs.length) (hy : ys.length = n) : dotZ (piece xs i n) ys % p = dv p n (fun k => xs.getD (i * n + k) 0) fun k => ys.getD k 0 := by
  rw [dv_dotZ (piece_len h) hy]
  exact dv_congr (fun k hk => piece_get xs i n k hk) fun _ _ => rfl
theorem vecB_yes {p : Int} {n : Nat} {ys : List Int} (hp : rightB p = true) (hy : Rng p ys) (hl : ys.length = n) : vecB p n ys = true := by
  unfold vecB
  rw [hl, hy.has hp, decide_eq_true rfl]; rfl
theorem vecB_true {p c : Int} {ys : List Int} (hu : U64s ys) (h : vecB p c ys = true) : rightB p = true ∧ Rng p ys ∧ (ys.length : Int) = c := by
  unfold vecB at h
  rw [Bool.and_eq_true, decide_eq_true_eq] at h
  obtain ⟨h5, h6⟩ := hasB_true h.2
  exact ⟨h5, fun x hx' => ⟨(hu x hx').1, h6 x hx'⟩, h.1⟩
/-- what a call answers: numbers, and that all is well -/
def RetV (l : List Int) (w : World) (e : Ending) (w' : World) : Prop := ∃ v, e = .returned (.tuple #[v, .int .i64 0]) ∧ Ints .u64 w' v l ∧ Ext w w'
/-- .. a matrix -/
def RetN (r c : Int) (l : List Int) (w : World) (e : Ending) (w' : World) : Prop := ∃ u, e = .returned (.tuple #[matV r c u, .int .i64 0]) ∧ Ints .u64 w' u l ∧ Ext w w'

end Go.Proofs.Ytlcempbeecdimaa
/- Package matrix: matrices under way; Turn, Left. -/
namespace Go.Proofs.Ytlcempbeecdimaa
open Go.RowKit Go.Maps

/-- a matrix under way: its box, and its cells -/
structure Und (w0 w : World) (h g Q : Nat) (r c : Int) (l : List Int) : Prop where
  box : Blk w h 25 #[.int .i64 r, .int .i64 c, .slice (some ⟨g, 0, none⟩) Q Q]
  row : WRow w g 0 l
  len : l.length = Q
  ext : Ext w0 w
  hg : w0.heap.size ≤ g
  hh : w0.heap.size ≤ h
  ne : g ≠ h
theorem Und.ext' {w0 w w' : World} {h g Q : Nat} {r c : Int} {l : List Int} (b : Und w0 w h g Q r c l) (y : Ext w w') : Und w0 w' h g Q r c l :=
  ⟨b.box.ext y, b.row.ext y, b.len, b.ext.trans y, b.hg, b.hh, b.ne⟩
theorem Und.put {w0 w : World} {h g Q : Nat} {r c : Int} {l : List Int} (b : Und w0 w h g Q r c l) {i : Nat} (hi : i < Q) (x : Int) : Und w0 (w.setCell ⟨g, i, none⟩ (.int .u64 x)) h g Q r c (l.set i x) := by
  have hs := b.row.set_ (i := i) (by rw [b.len]; exact hi) x
  rw [Nat.zero_add] at hs
  exact ⟨b.box.grown (setCell_grown _ _ _) (fun e => b.ne (by injection e)), hs, by rw [List.length_set]; exact b.len, b.ext.setCell (p := ⟨g, i, none⟩) b.hg _, b.hg, b.hh, b.ne⟩
theorem Und.at_ {w0 w : World} {h g Q : Nat} {r c : Int} {l : List Int} (b : Und w0 w h g Q r c l) {i : Nat} (hi : i < Q) : w.cell? ⟨g, i, none⟩ = some (.int .u64 (l.getD i 0)) ∧ w.frozen? ⟨g, i, none⟩ = false := by
  have := b.row.2 i (by rw [b.len]; exact hi)
  rw [Nat.zero_add] at this
  exact this
theorem Und.start {w0 w : World} {g Q : Nat} {r c : Int} {l : List Int} (hg : w0.heap.size ≤ g) (hrow : WRow w g 0 l) (hl : l.length = Q) (x : Ext w0 w) :
    Und w0 (w.alloc (.cells #[.int .i64 r, .int .i64 c, .slice (some ⟨g, 0, none⟩) Q Q] 25)) w.heap.size g Q r c l :=
  ⟨Blk.new _ _ _, hrow.ext ((Ext.refl _).alloc _), hl, x.alloc _, hg, x.size, Nat.ne_of_lt hrow.1⟩
/-- the answer's box is told a matrix -/
theorem fin0 {w wv : World} {g : Nat} {x y z : Value} (hR : Blk w g 25 #[x, y, z]) (hv : Ext wv w) (hg : wv.heap.size ≤ g) (a b c : Value) :
    Blk (((w.setCell ⟨g, 0, none⟩ a).setCell ⟨g, 1, none⟩ b).setCell ⟨g, 2, none⟩ c) g 25 #[a, b, c] ∧ Ext wv (((w.setCell ⟨g, 0, none⟩ a).setCell ⟨g, 1, none⟩ b).setCell ⟨g, 2, none⟩ c) :=
  ⟨((hR.set_ 0 a).set_ 1 b).set_ 2 c, ((hv.setCell (p := ⟨g, 0, none⟩) hg a).setCell (p := ⟨g, 1, none⟩) hg b).setCell (p := ⟨g, 2, none⟩) hg c⟩
theorem Und.fin {w0 w wv : World} {h g Q G : Nat} {r c : Int} {l : List Int} (b : Und w0 w h g Q r c l) {x y z : Value} (hR : Blk w G 25 #[x, y, z]) (hG : G < w0.heap.size) (hv : Ext wv w) (hgv : wv.heap.size ≤ G) (hQ : Q ≤ 9223372036854775807) :
    Blk (((w.setCell ⟨G, 0, none⟩ (.int .i64 r)).setCell ⟨G, 1, none⟩ (.int .i64 c)).setCell ⟨G, 2, none⟩ (.slice (some ⟨g, 0, none⟩) Q Q)) G 25 #[.int .i64 r, .int .i64 c, .slice (some ⟨g, 0, none⟩) Q Q] ∧
    Ints .u64 (((w.setCell ⟨G, 0, none⟩ (.int .i64 r)).setCell ⟨G, 1, none⟩ (.int .i64 c)).setCell ⟨G, 2, none⟩ (.slice (some ⟨g, 0, none⟩) Q Q)) (.slice (some ⟨g, 0, none⟩) Q Q) l ∧
    Ext wv (((w.setCell ⟨G, 0, none⟩ (.int .i64 r)).setCell ⟨G, 1, none⟩ (.int .i64 c)).setCell ⟨G, 2, none⟩ (.slice (some ⟨g, 0, none⟩) Q Q)) := by
  have hne : g ≠ G := by have := b.hg; omega
  refine ⟨(fin0 hR hv hgv _ _ _).1, ?_, (fin0 hR hv hgv _ _ _).2⟩
  exact (((b.row.set_other hne).set_other hne).set_other hne).ints' b.len (Nat.le_refl _) hQ
theorem boxes2 (w : World) (t t' : TypeId) (A B : Array Value) :
    Blk ((w.alloc (.cells A t)).alloc (.cells B t')) w.heap.size t A ∧ Blk ((w.alloc (.cells A t)).alloc (.cells B t')) (w.heap.size + 1) t' B ∧ Ext w ((w.alloc (.cells A t)).alloc (.cells B t')) :=
  ⟨(Blk.new w t A).ext ((Ext.refl _).alloc _), Blk.at_ (by rw [alloc_size]), ((Ext.refl w).alloc _).alloc _⟩
theorem at_inj {c i k i' k' : Nat} (hk : k < c) (hk' : k' < c) (h : i * c + k = i' * c + k') : i = i' ∧ k = k' := by
  constructor
  · rw [← at_div hk (i := i), h, at_div hk']
  · rw [← at_mod hk (i := i), h, at_mod hk']
theorem put_at {l : List Int} {c j i a b : Nat} (x : Int) (hi : i < c) (hb : b < c) (hl : j * c + i < l.length) : (l.set (j * c + i) x).getD (a * c + b) 0 = if a = j ∧ b = i then x else l.getD (a * c + b) 0 := by
  rw [set_get l _ _ x hl]
  by_cases e : a = j ∧ b = i
  · rw [if_pos e, if_pos (by rw [e.1, e.2])]
  · rw [if_neg e, if_neg (fun h => e (by obtain ⟨h1, h2⟩ := at_inj hi hb h; exact ⟨h1.symm, h2.symm⟩))]

/-- what a call answers where something isn't right, instead of a matrix -/
def noMat : Value := .tuple #[.agg #[.int .i64 0, .int .i64 0, .slice none 0 0], .int .i64 1]
set_option maxHeartbeats 400000 in
theorem mxTurn_no (p r c : Int) (v : Value) (xs : List Int) (w : World) (h0 : 0 ≤ p) (h1 : p ≤ 18446744073709551615) (hv : Ints .u64 w v xs) (hx : U64s xs) (h : matB p r c xs = false) :
    Calls Try.prog 18 #[.int .u64 p, matV r c v] w (Ret noMat w) := by
  have C1 := hid fun (W : World) (hW : Ext w W) => mxRight p r c v xs W h0 h1 (hv.ext hW) hx
  rw [h] at C1
  unfold matV at C1
  unfold matV noMat
  have hb2 := hid (boxes2 w 25 25 #[.int .i64 r, .int .i64 c, v] #[.int .i64 0, .int .i64 0, .slice none 0 0])
  obtain ⟨a, cap, rfl, k1, k2, k3⟩ := hv
  clear k3 hx h
  go_enter Try.func18, Try.ntmps18
  go_wp2_with (go_at_call 11; refine (C1.out _ (by repeat (first | exact Ext.refl _ | assumption | refine Ext.drew ?_ | refine Ext.drewN ?_ _ | refine Ext.alloc ?_ _ | refine Ext.trans ?_ (by assumption)))).mono ?_; rintro _ w1 ⟨rfl, x1⟩; have HR := hid (hb2.out.2.1.ext x1); have HE := hid (hb2.out.2.2.trans x1); obtain ⟨b0, b1, b2⟩ := HR.out.at3; have f0 := HR.out.frozen 0; have f1 := HR.out.frozen 1; have f2 := HR.out.frozen 2)
  have F := fin0 HR.out HE.out (by omega) (.int .i64 0) (.int .i64 0) (.slice none 0 0)
  refine bodyPost_ret (results_cell_row_tmp rfl _ _ (w.heap.size + 1) 25 _ (0, 0) _ rfl F.1 Try.underlying25 rfl (by kernel_rfl)) rfl ?_
  exact ⟨rfl, F.2⟩

set_option maxRecDepth 100000 in
set_option maxHeartbeats 1000000 in
theorem mxTurn_yes (p : Int) (m n : Nat) (v : Value) (xs : List Int) (w : World) (ok : MatOk p m n xs) (hv : Ints .u64 w v xs) :
    Calls Try.prog 18 #[.int .u64 p, matV m n v] w (RetN n m (turnL m n xs) w) := by
  have hp2 := rightB_true ok.hp
  have C1 := hid fun (W : World) (hW : Ext w W) => mxRight p m n v xs W (by omega) (by omega) (hv.ext hW) ok.u64
  rw [ok.b] at C1
  have Ok := hid ok
  have hm := ok.hm; have hn := ok.hn
  obtain ⟨a, cap, rfl, k1, k2, k3⟩ := hv
  obtain ⟨b, off, rfl, hb, k4⟩ := k3 ok.pos
  have K := hid k4
  have hcap := hid fun (i : Nat) (h : i < m) => Nat.le_trans (ok.at_ h) k1
  clear k3 k4 ok
  obtain ⟨Q, hQ⟩ : ∃ Q, n * m = Q := ⟨_, rfl⟩
  have hQb : Q ≤ 4096 := by rw [← hQ]; exact Nat.mul_le_mul hn.2 hm.2
  have HN := hid fun W : World => mxNoughts n m W hn.2 hm.2
  rw [hQ] at HN
  have HQ := hid hQ
  clear hQ
  have hb2 := hid (boxes2 w 25 25 #[.int .i64 (m : Int), .int .i64 (n : Int), .slice (some ⟨b, off, none⟩) xs.length cap] #[.int .i64 0, .int .i64 0, .slice none 0 0])
  unfold matV at C1
  unfold matV
  go_enter Try.func18, Try.ntmps18
  go_wp2_with (go_at_call 11; refine (C1.out _ (by repeat (first | exact Ext.refl _ | assumption | refine Ext.drew ?_ | refine Ext.drewN ?_ _ | refine Ext.alloc ?_ _ | refine Ext.trans ?_ (by assumption)))).mono ?_; rintro _ w1 ⟨rfl, x1⟩; have HA := hid (hb2.out.1.ext x1); have HR := hid (hb2.out.2.1.ext x1); have HE := hid (hb2.out.2.2.trans x1); obtain ⟨b0, b1, b2⟩ := HA.out.at3)
  have hR1 := HR.out.lt
  refine (HN.out _).mono ?_
  rintro _ w2 ⟨g, rfl, hg, hrow, x2⟩
  have HU := hid (Und.start (Q := Q) (r := (n : Int)) (c := (m : Int)) hg hrow List.length_replicate x2)
  unfold matV
  have b3 := (HA.out.ext (x2.alloc (.cells #[.int .i64 (n : Int), .int .i64 (m : Int), .slice (some ⟨g, 0, none⟩) Q Q] 25))).at3
  clear b0 b1 b2
  obtain ⟨b0, b1, b2⟩ := b3
  go_wp2_with fail
  obtain ⟨h, hh⟩ : ∃ h, w2.heap.size = h := ⟨_, rfl⟩
  obtain ⟨w3, hw3⟩ : ∃ w3, w2.alloc (.cells #[.int .i64 (n : Int), .int .i64 (m : Int), .slice (some ⟨g, 0, none⟩) Q Q] 25) = w3 := ⟨_, rfl⟩
  rw [hw3, hh] at HU
  rw [hw3, hh]
  clear hh hw3 b0 b1 b2 hrow x2 hg
  obtain ⟨gR, hgR⟩ : ∃ gR, w.heap.size + 1 = gR := ⟨_, rfl⟩
  have hgw : w.heap.size ≤ gR := by omega
  rw [hgR] at HR hR1
  rw [hgR]
  obtain ⟨gA, hgA⟩ : ∃ gA, w.heap.size = gA := ⟨_, rfl⟩
  have hbA : b < gA := by omega
  rw [hgA] at HA
  rw [hgA]
  clear hgR hgA
  go_loopw [22] (fun iv wr => ∃ (i : Nat) (l : List Int), iv = .int .i64 i ∧ i ≤ m ∧ Hid (Und w1 wr h g Q n m l) ∧ Hid (∀ a b, a < n → b < i → l.getD (a * m + b) 0 = xs.getD (b * n + a) 0)) (fun iv _ => m - (intOf iv).toNat)
  case atStart => exact ⟨0, _, rfl, Nat.zero_le _, HU, hid (by omega)⟩
  case round =>
    clear HU
    obtain ⟨i, l, rfl, hi, HU, hl⟩ := hrel
    obtain ⟨b0, b1, b2⟩ := (HA.out.ext HU.out.ext).at3
    by_cases hlt : i < m
    · have hck := hcap.out i hlt
      have hcells := fun (j : Nat) (hj : j < n) => K.out (i * n + j) (by have := Ok.out.at_ hlt; omega)
      go_wp2_with fail
      refine (mxRow (m : Int) (n : Int) n i b off xs.length cap wr rfl hn (by omega) hck k2).mono ?_
      rintro _ w4 ⟨rfl, x4⟩
      simp only [← Nat.add_assoc] at hcells
      obtain ⟨o, ho⟩ : ∃ o, off + i * n = o := ⟨_, rfl⟩
      obtain ⟨cp, hcp⟩ : ∃ cp, cap - i * n = cp := ⟨_, rfl⟩
      rw [ho] at hcells
      rw [ho, hcp]
      have hcpn : n ≤ cp := by omega
      have hcpb : cp ≤ 9223372036854775807 := by omega
      have HC := hid hcells
      clear ho hcp hck hcells b0 b1 b2
      go_wp2_with fail
      go_loopw [29] (fun jv wr => ∃ (j : Nat) (l : List Int), jv = .int .i64 j ∧ j ≤ n ∧ Hid (Und w1 wr h g Q n m l) ∧ Hid (∀ a b, a < n → (b < i ∨ b = i ∧ a < j) → l.getD (a * m + b) 0 = xs.getD (b * n + a) 0)) (fun jv _ => n - (intOf jv).toNat)
      case atStart => exact ⟨0, l, rfl, Nat.zero_le _, hid (HU.out.ext' x4), hid fun a b ha hb => hl.out a b ha (by omega)⟩
      case round =>
        clear HU hl
        obtain ⟨j, l, rfl, hj, HU, hl⟩ := hrel
        rename World => wi
        by_cases hlj : j < n
        · have gx := ((HE.out.trans HU.out.ext).cells _ _ hb).trans (HC.out j hlj)
          obtain ⟨x, ex⟩ : ∃ x, xs.getD (i * n + j) 0 = x := ⟨_, rfl⟩
          rw [ex] at gx
          have Ex := hid ex
          clear ex
          obtain ⟨b0, b1, b2⟩ := (HA.out.ext HU.out.ext).at3
          obtain ⟨o0, o1, o2⟩ := HU.out.box.at3
          obtain ⟨q, hq⟩ : ∃ q, j * m = q := ⟨_, rfl⟩
          obtain ⟨t, ht⟩ : ∃ t, q + i = t := ⟨_, rfl⟩
          have htQ : t < Q := by rw [← ht, ← hq, ← HQ.out]; exact at_lt hlj hlt
          have hqi : (j : Int) * (m : Int) = (q : Int) := by rw [← hq]; push_cast; rfl
          have hti : (q : Int) + (i : Int) = (t : Int) := by omega
          have hqb : q ≤ t := by omega
          obtain ⟨gt, ft⟩ := HU.out.at_ htQ
          have Htq := hid (show j * m + i = t by omega)
          clear ht hq
          go_wp2_with fail
          go_roundw
          case rel =>
            refine ⟨j + 1, l.set t x, by go_num, by omega, hid (HU.out.put htQ x), hid fun a b ha hb => ?_⟩
            rw [← Htq.out, put_at x hlt (by omega) (by rw [Htq.out, HU.out.len]; exact htQ)]
            by_cases e : a = j ∧ b = i
            · rw [if_pos e, e.1, e.2]; exact Ex.out.symm
            · rw [if_neg e]; exact hl.out a b ha (by omega)
          case measure => simp [intOf]; omega
        · obtain rfl : n = j := by omega
          go_wp2_with fail
          go_roundw
          case rel => exact ⟨i + 1, l, by go_num, by omega, HU, hid fun a b ha hb => hl.out a b ha (by omega)⟩
          case measure => simp [intOf]; omega
    · obtain rfl : m = i := by omega
      obtain ⟨o0, o1, o2⟩ := HU.out.box.at3
      have hRr := HR.out.ext HU.out.ext
      obtain ⟨r0, r1, r2⟩ := hRr.at3
      have f0 := hRr.frozen 0
      have f1 := hRr.frozen 1
      have f2 := hRr.frozen 2
      have F := hid (HU.out.fin hRr hR1 (HE.out.trans HU.out.ext) hgw (by omega))
      clear hRr
      go_wp2_with fail
      refine bodyPost_ret (results_cell_row_tmp rfl _ _ gR 25 _ (0, 0) _ rfl F.out.1 Try.underlying25 rfl (by kernel_rfl)) rfl ?_
      have e : l = turnL m n xs := grid_of (by rw [HU.out.len, HQ.out]) fun a b ha hb => hl.out a b ha hb
      exact ⟨_, rfl, e ▸ F.out.2.1, F.out.2.2⟩
end Go.Proofs.Ytlcempbeecdimaa
/- Package matrix: Left, Mul, One. -/
namespace Go.Proofs.Ytlcempbeecdimaa
open Go.RowKit Go.Maps

theorem MatOk.turn {p : Int} {m n : Nat} {xs : List Int} (h : MatOk p m n xs) : MatOk p n m (turnL m n xs) :=
  ⟨h.hp, turnL_rng (rightB_true h.hp).1 h.hx m n, h.hn, h.hm, turnL_len m n xs⟩
theorem times_turn (p : Int) (m n : Nat) (xs ys : List Int) : timesL p n m (turnL m n xs) ys = leftL p m n xs ys := by
  unfold timesL leftL
  refine tab_congr fun k hk => dv_congr (fun i hi => ?_) fun _ _ => rfl
  rw [turnL, grid_get _ hk hi]
theorem boxesM3 (w : World) (t : TypeId) (A B C : Array Value) :
    Blk (((w.alloc (.cells A t)).alloc (.cells B t)).alloc (.cells C t)) w.heap.size t A ∧ Blk (((w.alloc (.cells A t)).alloc (.cells B t)).alloc (.cells C t)) (w.heap.size + 1) t B ∧
    Blk (((w.alloc (.cells A t)).alloc (.cells B t)).alloc (.cells C t)) (w.heap.size + 1 + 1) t C ∧ Ext w (((w.alloc (.cells A t)).alloc (.cells B t)).alloc (.cells C t)) :=
  ⟨(Blk.new w t A).ext (((Ext.refl _).alloc _).alloc _), (Blk.at_ (by rw [alloc_size])).ext ((Ext.refl _).alloc _), Blk.at_ (by rw [alloc_size, alloc_size]), (((Ext.refl w).alloc _).alloc _).alloc _⟩

set_option maxRecDepth 100000 in
set_option maxHeartbeats 1000000 in
theorem mxMul_no (p r c r' c' : Int) (v u : Value) (xs ys : List Int) (w : World) (h0 : 0 ≤ p) (h1 : p ≤ 18446744073709551615) (hv : Ints .u64 w v xs) (hx : U64s xs) (hu : Ints .u64 w u ys) (hy : U64s ys)
    (h : (matB p r c xs && matB p r' c' ys && decide (c = r')) = false) :
    Calls Try.prog 22 #[.int .u64 p, matV r c v, matV r' c' u] w (Ret noMat w) := by
  have hb3 := hid (boxesM3 w 25 #[.int .i64 r, .int .i64 c, v] #[.int .i64 r', .int .i64 c', u] #[.int .i64 0, .int .i64 0, .slice none 0 0])
  have C2 := hid fun (W : World) (hW : Ext w W) => mxRight p r c v xs W h0 h1 (hv.ext hW) hx
  cases g1 : matB p r' c' ys
  · have C1 := hid fun (W : World) (hW : Ext w W) => mxTurn_no p r' c' u ys W h0 h1 (hu.ext hW) hy g1
    obtain ⟨a, cap, rfl, k1, k2, k3⟩ := hv
    obtain ⟨a', cap', rfl, m1, m2, m3⟩ := hu
    clear k3 m3 hx hy h g1 C2
    unfold matV noMat at C1
    unfold matV noMat
    go_enter Try.func22, Try.ntmps22
    go_wp2_with (go_at_call 18; refine (C1.out _ (by repeat (first | exact Ext.refl _ | assumption | refine Ext.drew ?_ | refine Ext.drewN ?_ _ | refine Ext.alloc ?_ _ | refine Ext.trans ?_ (by assumption)))).mono ?_; rintro _ w1 ⟨rfl, x1⟩
                 have HR := hid (hb3.out.2.2.1.ext (x1.alloc (.cells #[.int .i64 0, .int .i64 0, .slice none 0 0] 25)))
                 have HE := hid (hb3.out.2.2.2.trans (x1.alloc (.cells #[.int .i64 0, .int .i64 0, .slice none 0 0] 25)))
                 obtain ⟨b0, b1, b2⟩ := HR.out.at3; have f0 := HR.out.frozen 0; have f1 := HR.out.frozen 1; have f2 := HR.out.frozen 2)
    have F := fin0 HR.out HE.out (by omega) (.int .i64 0) (.int .i64 0) (.slice none 0 0)
    refine bodyPost_ret (results_cell_row_tmp rfl _ _ (w.heap.size + 1 + 1) 25 _ (0, 0) _ rfl F.1 Try.underlying25 rfl (by kernel_rfl)) rfl ?_
    exact ⟨rfl, F.2⟩
  · obtain ⟨n, q, rfl, rfl, oky⟩ := MatOk.of hy g1
    have C1 := hid fun (W : World) (hW : Ext w W) => mxTurn_yes p n q u ys W oky (hu.ext hW)
    rw [g1, Bool.and_true] at h
    obtain ⟨a, cap, rfl, k1, k2, k3⟩ := hv
    obtain ⟨a', cap', rfl, m1, m2, m3⟩ := hu
    clear k3 m3 hy g1 oky
    cases g2 : matB p r c xs
    · rw [g2] at C2
      clear h g2 hx
      unfold matV at C1 C2
      unfold matV noMat
      go_enter Try.func22, Try.ntmps22
      go_wp2_with (first
        | (go_at_call 18; refine (C1.out _ (by repeat (first | exact Ext.refl _ | assumption | refine Ext.drew ?_ | refine Ext.drewN ?_ _ | refine Ext.alloc ?_ _ | refine Ext.trans ?_ (by assumption)))).mono ?_; rintro _ w1 ⟨u1, rfl, hI, x1⟩; obtain ⟨a1, cap1, rfl, l1, l2, l3⟩ := hI; clear l3; try unfold matV
           have z1 := x1.alloc (.cells #[.int .i64 (q : Int), .int .i64 (n : Int), .slice a1 (turnL n q ys).length cap1] 25)
           have HA := hid (hb3.out.1.ext z1); have HR := hid (hb3.out.2.2.1.ext z1); have HE := hid (hb3.out.2.2.2.trans z1)
           obtain ⟨b0, b1, b2⟩ := HA.out.at3)
        | (go_at_call 11; refine (C2.out _ HE.out).mono ?_; rintro _ w2 ⟨rfl, x2⟩
           have HR2 := hid (HR.out.ext x2)
           obtain ⟨b0, b1, b2⟩ := HR2.out.at3; have f0 := HR2.out.frozen 0; have f1 := HR2.out.frozen 1; have f2 := HR2.out.frozen 2))
      have F := fin0 HR2.out (HE.out.trans x2) (by omega) (.int .i64 0) (.int .i64 0) (.slice none 0 0)
      refine bodyPost_ret (results_cell_row_tmp rfl _ _ (w.heap.size + 1 + 1) 25 _ (0, 0) _ rfl F.1 Try.underlying25 rfl (by kernel_rfl)) rfl ?_
      exact ⟨rfl, F.2⟩
    · rw [g2] at C2
      rw [g2, Bool.true_and] at h
      have hne : (c != (n : Int)) = true := by simpa using of_decide_eq_false h
      clear h g2 hx
      unfold matV at C1 C2
      unfold matV noMat
      go_enter Try.func22, Try.ntmps22
      go_wp2_with (first
        | (go_at_call 18; refine (C1.out _ (by repeat (first | exact Ext.refl _ | assumption | refine Ext.drew ?_ | refine Ext.drewN ?_ _ | refine Ext.alloc ?_ _ | refine Ext.trans ?_ (by assumption)))).mono ?_; rintro _ w1 ⟨u1, rfl, hI, x1⟩; obtain ⟨a1, cap1, rfl, l1, l2, l3⟩ := hI; clear l3; try unfold matV
           have z1 := x1.alloc (.cells #[.int .i64 (q : Int), .int .i64 (n : Int), .slice a1 (turnL n q ys).length cap1] 25)
           have HA := hid (hb3.out.1.ext z1); have HB := hid (hb3.out.2.1.ext z1); have HR := hid (hb3.out.2.2.1.ext z1); have HE := hid (hb3.out.2.2.2.trans z1)
           obtain ⟨b0, b1, b2⟩ := HA.out.at3)
        | (go_at_call 11; refine (C2.out _ HE.out).mono ?_; rintro _ w2 ⟨rfl, x2⟩
           have HR2 := hid (HR.out.ext x2)
           obtain ⟨a0, a1, a2⟩ := (HA.out.ext x2).at3
           obtain ⟨c0, c1, c2⟩ := (HB.out.ext x2).at3
           obtain ⟨b0, b1, b2⟩ := HR2.out.at3; have f0 := HR2.out.frozen 0; have f1 := HR2.out.frozen 1; have f2 := HR2.out.frozen 2))
      have F := fin0 HR2.out (HE.out.trans x2) (by omega) (.int .i64 0) (.int .i64 0) (.slice none 0 0)
      refine bodyPost_ret (results_cell_row_tmp rfl _ _ (w.heap.size + 1 + 1) 25 _ (0, 0) _ rfl F.1 Try.underlying25 rfl (by kernel_rfl)) rfl ?_
      exact ⟨rfl, F.2⟩
end Go.Proofs.Ytlcempbeecdimaa
/- Package matrix: Mul of what is right, One. -/
namespace Go.Proofs.Ytlcempbeecdimaa
open Go.RowKit Go.Maps

set_option maxRecDepth 100000 in
set_option maxHeartbeats 2000000 in
theorem mxMul_yes (p : Int) (m n q : Nat) (v u : Value) (xs ys : List Int) (w : World) (ok : MatOk p m n xs) (oky : MatOk p n q ys) (hv : Ints .u64 w v xs) (hu : Ints .u64 w u ys) :
    Calls Try.prog 22 #[.int .u64 p, matV m n v, matV n q u] w (RetN m q (mulL p m n q xs ys) w) := by
  have hp2 := rightB_true ok.hp
  have hb3 := hid (boxesM3 w 25 #[.int .i64 (m : Int), .int .i64 (n : Int), v] #[.int .i64 (n : Int), .int .i64 (q : Int), u] #[.int .i64 0, .int .i64 0, .slice none 0 0])
  have C1 := hid fun (W : World) (hW : Ext w W) => mxTurn_yes p n q u ys W oky (hu.ext hW)
  have C2 := hid fun (W : World) (hW : Ext w W) => mxRight p m n v xs W (by omega) (by omega) (hv.ext hW) ok.u64
  rw [ok.b] at C2
  have Ok := hid ok; have Oky := hid oky; have Hv := hid hv
  have Okt := hid oky.turn
  have hm := ok.hm; have hn := ok.hn; have hq := oky.hn
  obtain ⟨a, cap, rfl, k1, k2, k3⟩ := hv
  obtain ⟨b, off, rfl, hb, k4⟩ := k3 ok.pos
  obtain ⟨a', cap', rfl, m1, m2, m3⟩ := hu
  have hcap := hid fun (i : Nat) (h : i < m) => Nat.le_trans (ok.at_ h) k1
  clear k3 k4 m3 ok oky
  obtain ⟨Q, hQ⟩ : ∃ Q, m * q = Q := ⟨_, rfl⟩
  have hQb : Q ≤ 4096 := by rw [← hQ]; exact Nat.mul_le_mul hm.2 hq.2
  have HN := hid fun W : World => mxNoughts m q W hm.2 hq.2
  rw [hQ] at HN
  have HQ := hid hQ
  clear hQ
  obtain ⟨F, hF⟩ : ∃ F : Nat → Nat → Int, (fun i k => dv p n (fun j => xs.getD (i * n + j) 0) fun j => ys.getD (j * q + k) 0) = F := ⟨_, rfl⟩
  have HF := hid (fun i k => (congrFun (congrFun hF i) k : dv p n (fun j => xs.getD (i * n + j) 0) (fun j => ys.getD (j * q + k) 0) = F i k))
  unfold mulL
  rw [hF]
  clear hF
  unfold matV at C1 C2
  unfold matV
  go_enter Try.func22, Try.ntmps22
  go_wp2_with (first
    | (go_at_call 18; refine (C1.out _ (by repeat (first | exact Ext.refl _ | assumption | refine Ext.drew ?_ | refine Ext.drewN ?_ _ | refine Ext.alloc ?_ _ | refine Ext.trans ?_ (by assumption)))).mono ?_; rintro _ w1 ⟨u1, rfl, hI, x1⟩; have HI := hid hI; obtain ⟨a1, cap1, rfl, l1, l2, l3⟩ := hI; obtain ⟨b1, off1, rfl, hb1, l4⟩ := l3 Okt.out.pos; clear l3 l4; try unfold matV
       have y1 := (Ext.refl w1).alloc (.cells #[.int .i64 (q : Int), .int .i64 (n : Int), .slice (some ⟨b1, off1, none⟩) (turnL n q ys).length cap1] 25)
       have z1 := x1.trans y1
       have HA := hid (hb3.out.1.ext z1); have HB := hid (hb3.out.2.1.ext z1); have HR := hid (hb3.out.2.2.1.ext z1); have HE := hid (hb3.out.2.2.2.trans z1)
       have HT := hid (Blk.new w1 25 #[.int .i64 (q : Int), .int .i64 (n : Int), .slice (some ⟨b1, off1, none⟩) (turnL n q ys).length cap1])
       obtain ⟨b0, b1', b2⟩ := HA.out.at3)
    | (go_at_call 11; refine (C2.out _ HE.out).mono ?_; rintro _ w2 ⟨rfl, x2⟩
       obtain ⟨a0, a1, a2⟩ := (HA.out.ext x2).at3
       obtain ⟨c0, c1, c2⟩ := (HB.out.ext x2).at3)
    | fail)
  refine (HN.out _).mono ?_
  rintro _ w3 ⟨g, rfl, hg, hrow, x3⟩
  have HU := hid (Und.start (Q := Q) (r := (m : Int)) (c := (q : Int)) hg hrow List.length_replicate x3)
  unfold matV
  have y3 := x3.alloc (.cells #[.int .i64 (m : Int), .int .i64 (q : Int), .slice (some ⟨g, 0, none⟩) Q Q] 25)
  have b3 := (HA.out.ext (x2.trans y3)).at3
  clear b0 b1' b2 a0 a1 a2 c0 c1 c2
  obtain ⟨b0, b1', b2⟩ := b3
  go_wp2_with fail
  -- the worlds behind: w2 holds A, T, R; the product stands in g, its box in h
  obtain ⟨h, hh⟩ : ∃ h, w3.heap.size = h := ⟨_, rfl⟩
  obtain ⟨w4, hw4⟩ : ∃ w4, w3.alloc (.cells #[.int .i64 (m : Int), .int .i64 (q : Int), .slice (some ⟨g, 0, none⟩) Q Q] 25) = w4 := ⟨_, rfl⟩
  rw [hw4, hh] at HU
  rw [hw4, hh]
  replace HA := hid (HA.out.ext x2); replace HR := hid (HR.out.ext x2); replace HT := hid (HT.out.ext x2); replace HE := hid (HE.out.trans x2)
  have HI2 := hid (HI.out.ext (y1.trans x2))
  have hb1' : b1 < w2.heap.size := Nat.lt_of_lt_of_le hb1 (y1.trans x2).size
  have hR1 := HR.out.lt
  have hA1 := HA.out.lt
  have hT1 := HT.out.lt
  obtain ⟨hT, hhT⟩ : ∃ hT, w1.heap.size = hT := ⟨_, rfl⟩
  rw [hhT] at HT hT1
  rw [hhT]
  clear hh hw4 b0 b1' b2 hrow x3 y3 hg y1 z1 x1 hb1 hhT HB HI
  obtain ⟨gR, hgR⟩ : ∃ gR, w.heap.size + 1 + 1 = gR := ⟨_, rfl⟩
  have hgw : w.heap.size ≤ gR := by omega
  rw [hgR] at HR hR1
  rw [hgR]
  obtain ⟨gB, hgB⟩ : ∃ gB, w.heap.size + 1 = gB := ⟨_, rfl⟩
  rw [hgB]
  obtain ⟨gA, hgA⟩ : ∃ gA, w.heap.size = gA := ⟨_, rfl⟩
  rw [hgA] at HA hA1
  rw [hgA]
  clear hgR hgB hgA hb3
  have HLT := hid l1
  have hcapT := hid fun (j : Nat) (h : j < q) => Nat.le_trans (Okt.out.at_ h) l1
  go_loopw [43] (fun iv wr => ∃ (i : Nat) (l : List Int), iv = .int .i64 i ∧ i ≤ m ∧ Hid (Und w2 wr h g Q m q l) ∧ Hid (∀ a b, b < q → a < i → l.getD (a * q + b) 0 = F a b)) (fun iv _ => m - (intOf iv).toNat)
  case atStart => exact ⟨0, _, rfl, Nat.zero_le _, HU, hid (by omega)⟩
  case round =>
    clear HU
    obtain ⟨i, l, rfl, hi, HU, hl⟩ := hrel
    obtain ⟨b0, b1', b2⟩ := (HA.out.ext HU.out.ext).at3
    obtain ⟨o0, o1, o2⟩ := HU.out.box.at3
    by_cases hlt : i < m
    · have hck := hcap.out i hlt
      go_wp2_with fail
      refine (mxRow (m : Int) (q : Int) q i g 0 Q Q wr rfl hq (by omega) (by rw [← HQ.out, ← Nat.succ_mul]; exact Nat.mul_le_mul_right _ hlt) (by omega)).mono ?_
      rintro _ w5 ⟨rfl, x5⟩
      rw [Nat.zero_add]
      have hoQ : i * q + q ≤ Q := by rw [← HQ.out, ← Nat.succ_mul]; exact Nat.mul_le_mul_right _ hlt
      obtain ⟨o, ho⟩ : ∃ o, i * q = o := ⟨_, rfl⟩
      obtain ⟨cp, hcp⟩ : ∃ cp, Q - o = cp := ⟨_, rfl⟩
      rw [ho] at hoQ
      rw [ho, hcp]
      have hcpn : q ≤ cp := by omega
      have hcpb : cp ≤ 9223372036854775807 := by omega
      have Ho := hid ho
      clear ho hcp b0 b1' b2 o0 o1 o2
      go_wp2_with fail
      go_loopw [51] (fun jv wr => ∃ (j : Nat) (l : List Int), jv = .int .i64 j ∧ j ≤ q ∧ Hid (Und w2 wr h g Q m q l) ∧ Hid (∀ a b, b < q → (a < i ∨ a = i ∧ b < j) → l.getD (a * q + b) 0 = F a b)) (fun jv _ => q - (intOf jv).toNat)
      case atStart => exact ⟨0, l, rfl, Nat.zero_le _, hid (HU.out.ext' x5), hid fun a b hb ha => hl.out a b hb (by omega)⟩
      case round =>
        clear HU hl
        obtain ⟨j, l, rfl, hj, HU, hl⟩ := hrel
        rename World => wi
        by_cases hlj : j < q
        · obtain ⟨z, hz⟩ : ∃ z, F i j = z := ⟨_, rfl⟩
          have hdot : dotZ (piece xs i n) (piece (turnL n q ys) j n) % p = z := by
            rw [dot_piece (Ok.out.at_ hlt) (piece_len (Okt.out.at_ hlj)), ← hz, ← HF.out i j]
            exact dv_congr (fun _ _ => rfl) fun k hk => by rw [piece_get _ _ _ _ hk, turnL, grid_get _ hlj hk]
          have Hdot := hid hdot
          have Hz := hid hz
          clear hz hdot
          have hcT := hcapT.out j hlj
          obtain ⟨t, ht⟩ : ∃ t, o + j = t := ⟨_, rfl⟩
          have htQ : t < Q := by omega
          have Ht := hid (show i * q + j = t by rw [Ho.out]; exact ht)
          have fs := hid (fun (W : World) (hW : Ext wi W) => And.intro ((HA.out.ext (HU.out.ext.trans hW)).at3) ((HT.out.ext (HU.out.ext.trans hW)).at3))
          have fs2 := hid (fun (W : World) (hW : Ext wi W) (x : Value) => And.intro (((HA.out.ext (HU.out.ext.trans hW)).grown (setCell_grown W ⟨g, t, none⟩ x) (fun e => absurd (show g = gA by injection e) (by have := HU.out.hg; omega))).at3) (((HT.out.ext (HU.out.ext.trans hW)).grown (setCell_grown W ⟨g, t, none⟩ x) (fun e => absurd (show g = hT by injection e) (by have := HU.out.hg; omega))).at3))
          have hjQ : (j : Int) < (q : Int) := by omega
          have hj0 : (0 : Int) ≤ (j : Int) := by omega
          go_wp2_with fail
          go_region_held3 (fun w' => (w'.cell? ⟨gA, 0, none⟩ = some (.int .i64 (m : Int)) ∧ w'.cell? ⟨gA, 1, none⟩ = some (.int .i64 (n : Int)) ∧ w'.cell? ⟨gA, 2, none⟩ = some (.slice (some ⟨b, off, none⟩) xs.length cap)) ∧ w'.cell? ⟨hT, 0, none⟩ = some (.int .i64 (q : Int)) ∧ w'.cell? ⟨hT, 1, none⟩ = some (.int .i64 (n : Int)) ∧ w'.cell? ⟨hT, 2, none⟩ = some (.slice (some ⟨b1, off1, none⟩) (turnL n q ys).length cap1)) (first | assumption | exact fs.out _ ((Ext.refl wi).drew) | exact fs.out _ (by assumption) | exact fs2.out _ (by assumption) _)
            ((first
              | (go_at_call_of 46 b; refine (mxRow (m : Int) (n : Int) n i b off xs.length cap _ rfl hn (by omega) hck k2).mono ?_; rintro _ w6 ⟨rfl, x6⟩; have y6 : Ext wi w6 := Ext.trans (by first | exact (Ext.refl wi).drew | assumption) x6)
              | (go_at_call_of 46 b1; refine (mxRow (q : Int) (n : Int) n j b1 off1 (turnL n q ys).length cap1 _ rfl hn (by omega) hcT l2).mono ?_; rintro _ w7 ⟨rfl, x7⟩; have y7 : Ext wi w7 := Ext.trans (by first | exact (Ext.refl wi).drew | assumption) x7)
              | (go_at_call 40
                 refine (dot_as p z _ _ (piece xs i n) (piece (turnL n q ys) j n) _ ((Hv.out.ext (HE.out.trans (HU.out.ext.trans y7))).sub (i * n) n (Ok.out.at_ hlt) hn.1) ((HI2.out.ext (HU.out.ext.trans y7)).sub (j * n) n (Okt.out.at_ hlj) hn.1) ((piece_rng Ok.out.hx i n).u64 hp2.2) ((piece_rng Okt.out.hx j n).u64 hp2.2) (by rw [piece_len (Ok.out.at_ hlt), piece_len (Okt.out.at_ hlj)]) ((piece_rng Ok.out.hx i n).has Ok.out.hp) ((piece_rng Okt.out.hx j n).has Ok.out.hp) Hdot.out).mono ?_
                 rintro _ w8 ⟨rfl, x8⟩
                 have y8 : Ext wi w8 := y7.trans x8
                 have HU8 := hid (HU.out.ext' y8)
                 obtain ⟨gt, ft⟩ := HU8.out.at_ htQ)))
          go_wp2_with fail
          go_roundw
          case rel =>
            refine ⟨j + 1, l.set t z, by go_num, by omega, hid (HU8.out.put htQ z), hid fun a b hb ha => ?_⟩
            rw [← Ht.out, put_at z hlj hb (by rw [Ht.out, HU.out.len]; exact htQ)]
            by_cases e : a = i ∧ b = j
            · rw [if_pos e, e.1, e.2]; exact Hz.out.symm
            · rw [if_neg e]; exact hl.out a b hb (by omega)
          case measure => simp [intOf]; omega
        · obtain rfl : q = j := by omega
          go_wp2_with fail
          go_roundw
          case rel => exact ⟨i + 1, l, by go_num, by omega, HU, hid fun a b hb ha => hl.out a b hb (by omega)⟩
          case measure => simp [intOf]; omega
    · obtain rfl : m = i := by omega
      have hRr := HR.out.ext HU.out.ext
      obtain ⟨r0, r1, r2⟩ := hRr.at3
      have f0 := hRr.frozen 0
      have f1 := hRr.frozen 1
      have f2 := hRr.frozen 2
      have FF := hid (HU.out.fin hRr hR1 (HE.out.trans HU.out.ext) hgw (by omega))
      clear hRr
      go_wp2_with fail
      refine bodyPost_ret (results_cell_row_tmp rfl _ _ gR 25 _ (0, 0) _ rfl FF.out.1 Try.underlying25 rfl (by kernel_rfl)) rfl ?_
      have e : l = grid m q _ := grid_of (by rw [HU.out.len, HQ.out]) fun a b ha hb => hl.out a b hb ha
      exact ⟨_, rfl, e ▸ FF.out.2.1, FF.out.2.2⟩
end Go.Proofs.Ytlcempbeecdimaa
/- Package matrix: One; the least and the greatest of a list; whether rows and columns may be picked. -/
namespace Go.Proofs.Ytlcempbeecdimaa
open Go.RowKit Go.Maps

set_option maxHeartbeats 400000 in
theorem min_any (v : Value) (xs : List Int) (w : World) (hv : Ints .i64 w v xs) (h0 : 0 < xs.length) :
    Calls Try.prog 76 #[v] w fun e w' => ∃ z, e = .returned (.int .i64 z) ∧ z ∈ xs ∧ (∀ x ∈ xs, z ≤ x) ∧ w = w' := by
  obtain ⟨a, cap, rfl, k1, k2, k3⟩ := hv
  obtain ⟨b, off, rfl, hb, hc⟩ := k3 h0
  have g0 := hc 0 h0
  rw [Nat.add_zero] at g0
  have Hc := hid hc
  clear hc k3
  obtain ⟨x0, e0⟩ : ∃ x, xs.getD 0 0 = x := ⟨_, rfl⟩
  rw [e0] at g0
  have E0 := hid e0
  clear e0
  go_enter Try.func76, Try.ntmps76
  go_wp2
  go_loop [4, 3] (fun i mv => ∃ (k : Nat) (z : Int), i = .int .i64 k ∧ mv = .int .i64 z ∧ 1 ≤ k ∧ k ≤ xs.length ∧ Hid (z ∈ xs) ∧ Hid (∀ j, j < k → z ≤ xs.getD j 0)) (fun i _ => xs.length - (intOf i).toNat)
  case atStart => exact ⟨1, x0, rfl, rfl, Nat.le_refl _, h0, hid (E0.out ▸ getD_mem 0 h0), hid fun j hj => (show j = 0 by omega) ▸ E0.out ▸ Int.le_refl _⟩
  case round =>
    obtain ⟨k, z, rfl, rfl, hk1, hk, hm, hall⟩ := hrel
    by_cases hlt : k < xs.length
    · have g := Hc.out k hlt
      obtain ⟨x, ex⟩ : ∃ x, xs.getD k 0 = x := ⟨_, rfl⟩
      rw [ex] at g
      have Ex := hid ex
      clear ex
      by_cases hxz : x < z
      · go_wp2
        go_round
        case rel => exact ⟨k + 1, x, by go_num, rfl, by omega, by omega, hid (Ex.out ▸ getD_mem 0 hlt), hid fun j hj => by
          by_cases e : j = k
          · rw [e, Ex.out]; exact Int.le_refl _
          · have := hall.out j (by omega); omega⟩
        case measure => simp [intOf]; omega
      · go_wp2
        go_round
        case rel => exact ⟨k + 1, z, by go_num, rfl, by omega, by omega, hm, hid fun j hj => by
          by_cases e : j = k
          · rw [e, Ex.out]; omega
          · exact hall.out j (by omega)⟩
        case measure => simp [intOf]; omega
    · have hall2 : Hid (∀ x ∈ xs, z ≤ x) := hid fun x hx => by
        obtain ⟨j, hj, rfl⟩ := List.mem_iff_getElem.1 hx
        have := hall.out j (by omega)
        rwa [show xs.getD j 0 = xs[j] by simp [List.getD, List.getElem?_eq_getElem hj]] at this
      go_wp2
      go_ret
      exact ⟨z, rfl, hm.out, hall2.out, rfl⟩
set_option maxHeartbeats 400000 in
theorem max_any (v : Value) (xs : List Int) (w : World) (hv : Ints .i64 w v xs) (h0 : 0 < xs.length) :
    Calls Try.prog 77 #[v] w fun e w' => ∃ z, e = .returned (.int .i64 z) ∧ z ∈ xs ∧ (∀ x ∈ xs, x ≤ z) ∧ w = w' := by
  obtain ⟨a, cap, rfl, k1, k2, k3⟩ := hv
  obtain ⟨b, off, rfl, hb, hc⟩ := k3 h0
  have g0 := hc 0 h0
  rw [Nat.add_zero] at g0
  have Hc := hid hc
  clear hc k3
  obtain ⟨x0, e0⟩ : ∃ x, xs.getD 0 0 = x := ⟨_, rfl⟩
  rw [e0] at g0
  have E0 := hid e0
  clear e0
  go_enter Try.func77, Try.ntmps77
  go_wp2
  go_loop [4, 3] (fun i mv => ∃ (k : Nat) (z : Int), i = .int .i64 k ∧ mv = .int .i64 z ∧ 1 ≤ k ∧ k ≤ xs.length ∧ Hid (z ∈ xs) ∧ Hid (∀ j, j < k → xs.getD j 0 ≤ z)) (fun i _ => xs.length - (intOf i).toNat)
  case atStart => exact ⟨1, x0, rfl, rfl, Nat.le_refl _, h0, hid (E0.out ▸ getD_mem 0 h0), hid fun j hj => (show j = 0 by omega) ▸ E0.out ▸ Int.le_refl _⟩
  case round =>
    obtain ⟨k, z, rfl, rfl, hk1, hk, hm, hall⟩ := hrel
    by_cases hlt : k < xs.length
    · have g := Hc.out k hlt
      obtain ⟨x, ex⟩ : ∃ x, xs.getD k 0 = x := ⟨_, rfl⟩
      rw [ex] at g
      have Ex := hid ex
      clear ex
      by_cases hxz : z < x
      · go_wp2
        go_round
        case rel => exact ⟨k + 1, x, by go_num, rfl, by omega, by omega, hid (Ex.out ▸ getD_mem 0 hlt), hid fun j hj => by
          by_cases e : j = k
          · rw [e, Ex.out]; exact Int.le_refl _
          · have := hall.out j (by omega); omega⟩
        case measure => simp [intOf]; omega
      · go_wp2
        go_round
        case rel => exact ⟨k + 1, z, by go_num, rfl, by omega, by omega, hm, hid fun j hj => by
          by_cases e : j = k
          · rw [e, Ex.out]; omega
          · exact hall.out j (by omega)⟩
        case measure => simp [intOf]; omega
    · have hall2 : Hid (∀ x ∈ xs, x ≤ z) := hid fun x hx => by
        obtain ⟨j, hj, rfl⟩ := List.mem_iff_getElem.1 hx
        have := hall.out j (by omega)
        rwa [show xs.getD j 0 = xs[j] by simp [List.getD, List.getElem?_eq_getElem hj]] at this
      go_wp2
      go_ret
      exact ⟨z, rfl, hm.out, hall2.out, rfl⟩
/-- may these be picked? -/
def picksB (many : Int) (l : List Int) : Bool := decide (1 ≤ l.length ∧ l.length ≤ 64) && l.all fun x => decide (0 ≤ x ∧ x < many)
theorem mxPicks (many : Int) (v : Value) (l : List Int) (w : World) (hv : Ints .i64 w v l) :
    Calls Try.prog 67 #[v, .int .i64 many] w fun e w' => e = .returned (.bool (picksB many l)) ∧ w = w' := by
  have C1 := hid fun h => min_any v l w hv h
  have C2 := hid fun h => max_any v l w hv h
  obtain ⟨R, hR⟩ : ∃ R, picksB many l = R := ⟨_, rfl⟩
  rw [hR]
  unfold picksB at hR
  obtain ⟨a, cap, rfl, k1, k2, k3⟩ := hv
  clear k3
  by_cases g1 : 1 ≤ l.length ∧ l.length ≤ 64
  · rw [decide_eq_true g1, Bool.true_and] at hR
    have s1 : sideB (l.length : Int) = true := decide_eq_true (by omega)
    have HR := hid hR
    clear hR
    go_enter Try.func67, Try.ntmps67
    go_wp2_with (first
      | (go_at_call 55; refine (mxSide _ _).mono ?_; rintro _ _ ⟨rfl, rfl⟩)
      | (go_at_call 76; refine (C1.out g1.1).mono ?_; rintro _ _ ⟨z, rfl, hz1, hz2, rfl⟩; have Hz1 := hid hz1; have Hz2 := hid hz2; clear hz1 hz2)
      | (go_at_call 77; refine (C2.out g1.1).mono ?_; rintro _ _ ⟨y, rfl, hy1, hy2, rfl⟩; have Hy1 := hid hy1; have Hy2 := hid hy2; clear hy1 hy2))
    all_goals
      go_ret
      refine ⟨ret_bool ?_, rfl⟩
      rw [← HR.out]
      symm
      first
        | (rw [List.all_eq_false]; refine ⟨z, Hz1.out, by simp; omega⟩)
        | (rw [Bool.eq_iff_iff]; simp only [List.all_eq_true, decide_eq_true_eq]
           exact ⟨fun h => (h y Hy1.out).2, fun h x hx => ⟨by have := Hz2.out x hx; omega, by have := Hy2.out x hx; omega⟩⟩)
  · rw [decide_eq_false g1, Bool.false_and] at hR
    subst hR
    have s1 : sideB (l.length : Int) = false := decide_eq_false (by omega)
    go_enter Try.func67, Try.ntmps67
    go_wp2_with (go_at_call 55; refine (mxSide _ _).mono ?_; rintro _ _ ⟨rfl, rfl⟩)
    go_ret
    exact ⟨rfl, rfl⟩
end Go.Proofs.Ytlcempbeecdimaa
/- Package matrix: Pick. -/
namespace Go.Proofs.Ytlcempbeecdimaa
open Go.RowKit Go.Maps

/-- places, as they are counted -/
def nats (l : List Int) : List Nat := l.map Int.toNat
theorem nats_len (l : List Int) : (nats l).length = l.length := by simp [nats]
theorem nats_get {l : List Int} {many : Nat} (h : picksB many l = true) {i : Nat} (hi : i < l.length) : l.getD i 0 = ((nats l).getD i 0 : Nat) ∧ (nats l).getD i 0 < many := by
  unfold picksB at h
  rw [Bool.and_eq_true, List.all_eq_true] at h
  have h1 := h.2 (l.getD i 0) (getD_mem 0 hi)
  rw [decide_eq_true_eq] at h1
  have e : (nats l).getD i 0 = (l.getD i 0).toNat := by
    unfold nats
    simp [List.getD, List.getElem?_eq_getElem hi]
  rw [e]
  omega
theorem picksB_len {many : Int} {l : List Int} (h : picksB many l = true) : 1 ≤ l.length ∧ l.length ≤ 64 := by
  unfold picksB at h
  rw [Bool.and_eq_true, decide_eq_true_eq] at h
  exact h.1

set_option maxRecDepth 100000 in
set_option maxHeartbeats 1000000 in
theorem mxPick_no (p r c : Int) (v vr vc : Value) (xs rs cs : List Int) (w : World) (h0 : 0 ≤ p) (h1 : p ≤ 18446744073709551615) (hv : Ints .u64 w v xs) (hx : U64s xs) (hr : Ints .i64 w vr rs) (hc : Ints .i64 w vc cs)
    (h : (matB p r c xs && picksB r rs && picksB c cs) = false) :
    Calls Try.prog 42 #[.int .u64 p, matV r c v, vr, vc] w (Ret noMat w) := by
  have hb2 := hid (boxes2 w 25 25 #[.int .i64 r, .int .i64 c, v] #[.int .i64 0, .int .i64 0, .slice none 0 0])
  have C1 := hid fun (W : World) (hW : Ext w W) => mxRight p r c v xs W h0 h1 (hv.ext hW) hx
  have CR := hid fun (W : World) (hW : Ext w W) => mxPicks r vr rs W (hr.ext hW)
  have CC := hid fun (W : World) (hW : Ext w W) => mxPicks c vc cs W (hc.ext hW)
  obtain ⟨a, cap, rfl, k1, k2, k3⟩ := hv
  obtain ⟨ar, capr, rfl, l1, l2, l3⟩ := hr
  obtain ⟨ac, capc, rfl, m1, m2, m3⟩ := hc
  clear k3 l3 m3 hx
  unfold matV at C1
  unfold matV noMat
  cases g1 : matB p r c xs
  · rw [g1] at C1
    clear h g1
    go_enter Try.func42, Try.ntmps42
    go_wp2_with (go_at_call 11; refine (C1.out _ (by repeat (first | exact Ext.refl _ | assumption | refine Ext.drew ?_ | refine Ext.drewN ?_ _ | refine Ext.alloc ?_ _ | refine Ext.trans ?_ (by assumption)))).mono ?_; rintro _ w1 ⟨rfl, x1⟩; have HR := hid (hb2.out.2.1.ext x1); have HE := hid (hb2.out.2.2.trans x1); obtain ⟨b0, b1, b2⟩ := HR.out.at3; have f0 := HR.out.frozen 0; have f1 := HR.out.frozen 1; have f2 := HR.out.frozen 2)
    have F := fin0 HR.out HE.out (by omega) (.int .i64 0) (.int .i64 0) (.slice none 0 0)
    refine bodyPost_ret (results_cell_row_tmp rfl _ _ (w.heap.size + 1) 25 _ (0, 0) _ rfl F.1 Try.underlying25 rfl (by kernel_rfl)) rfl ?_
    exact ⟨rfl, F.2⟩
  rw [g1, Bool.true_and] at h
  rw [g1] at C1
  cases g2 : picksB r rs
  · rw [g2] at CR
    clear h g1 g2
    go_enter Try.func42, Try.ntmps42
    go_wp2_with (first
      | (go_at_call 11; refine (C1.out _ (by repeat (first | exact Ext.refl _ | assumption | refine Ext.drew ?_ | refine Ext.drewN ?_ _ | refine Ext.alloc ?_ _ | refine Ext.trans ?_ (by assumption)))).mono ?_; rintro _ w1 ⟨rfl, x1⟩; have HR := hid (hb2.out.2.1.ext x1); have HE := hid (hb2.out.2.2.trans x1); obtain ⟨a0, a1, a2⟩ := (hb2.out.1.ext x1).at3; obtain ⟨b0, b1, b2⟩ := HR.out.at3; have f0 := HR.out.frozen 0; have f1 := HR.out.frozen 1; have f2 := HR.out.frozen 2)
      | (go_at_call 67; refine (CR.out _ HE.out).mono ?_; rintro _ _ ⟨rfl, rfl⟩))
    have F := fin0 HR.out HE.out (by omega) (.int .i64 0) (.int .i64 0) (.slice none 0 0)
    refine bodyPost_ret (results_cell_row_tmp rfl _ _ (w.heap.size + 1) 25 _ (0, 0) _ rfl F.1 Try.underlying25 rfl (by kernel_rfl)) rfl ?_
    exact ⟨rfl, F.2⟩
  rw [g2, Bool.true_and] at h
  rw [g2] at CR
  rw [h] at CC
  clear h g1 g2
  go_enter Try.func42, Try.ntmps42
  go_wp2_with (first
    | (go_at_call 11; refine (C1.out _ (by repeat (first | exact Ext.refl _ | assumption | refine Ext.drew ?_ | refine Ext.drewN ?_ _ | refine Ext.alloc ?_ _ | refine Ext.trans ?_ (by assumption)))).mono ?_; rintro _ w1 ⟨rfl, x1⟩; have HR := hid (hb2.out.2.1.ext x1); have HE := hid (hb2.out.2.2.trans x1); obtain ⟨a0, a1, a2⟩ := (hb2.out.1.ext x1).at3; obtain ⟨b0, b1, b2⟩ := HR.out.at3; have f0 := HR.out.frozen 0; have f1 := HR.out.frozen 1; have f2 := HR.out.frozen 2)
    | (go_at_call_of 67 ar; refine (CR.out _ HE.out).mono ?_; rintro _ _ ⟨rfl, rfl⟩)
    | (go_at_call_of 67 ac; refine (CC.out _ HE.out).mono ?_; rintro _ _ ⟨rfl, rfl⟩))
  have F := fin0 HR.out HE.out (by omega) (.int .i64 0) (.int .i64 0) (.slice none 0 0)
  refine bodyPost_ret (results_cell_row_tmp rfl _ _ (w.heap.size + 1) 25 _ (0, 0) _ rfl F.1 Try.underlying25 rfl (by kernel_rfl)) rfl ?_
  exact ⟨rfl, F.2⟩

set_option maxRecDepth 100000 in
set_option maxHeartbeats 2000000 in
theorem mxPick_yes (p : Int) (m n : Nat) (v vr vc : Value) (xs rs cs : List Int) (w : World) (ok : MatOk p m n xs) (hv : Ints .u64 w v xs) (hr : Ints .i64 w vr rs) (hc : Ints .i64 w vc cs) (gr : picksB m rs = true) (gc : picksB n cs = true) :
    Calls Try.prog 42 #[.int .u64 p, matV m n v, vr, vc] w (RetN rs.length cs.length (pickL n xs (nats rs) (nats cs)) w) := by
  have hp2 := rightB_true ok.hp
  have hb2 := hid (boxes2 w 25 25 #[.int .i64 (m : Int), .int .i64 (n : Int), v] #[.int .i64 0, .int .i64 0, .slice none 0 0])
  have C1 := hid fun (W : World) (hW : Ext w W) => mxRight p m n v xs W (by omega) (by omega) (hv.ext hW) ok.u64
  rw [ok.b] at C1
  have CR := hid fun (W : World) (hW : Ext w W) => mxPicks m vr rs W (hr.ext hW)
  have CC := hid fun (W : World) (hW : Ext w W) => mxPicks n vc cs W (hc.ext hW)
  rw [gr] at CR
  rw [gc] at CC
  have hrl := picksB_len gr
  have hcl := picksB_len gc
  have GR := hid gr; have GC := hid gc; have Ok := hid ok
  have hm := ok.hm; have hn := ok.hn
  obtain ⟨a, cap, rfl, k1, k2, k3⟩ := hv
  obtain ⟨b, off, rfl, hb, k4⟩ := k3 ok.pos
  have K := hid k4
  have hcap := hid fun (i : Nat) (h : i < m) => Nat.le_trans (ok.at_ h) k1
  obtain ⟨ar, capr, rfl, l1, l2, l3⟩ := hr
  obtain ⟨br, offr, rfl, hbr, l4⟩ := l3 hrl.1
  have KR := hid l4
  obtain ⟨ac, capc, rfl, m1, m2, m3⟩ := hc
  obtain ⟨bc, offc, rfl, hbc, m4⟩ := m3 hcl.1
  have KC := hid m4
  clear k3 k4 l3 l4 m3 m4 gr gc ok
  obtain ⟨R, hR⟩ : ∃ R, rs.length = R := ⟨_, rfl⟩
  obtain ⟨C, hC⟩ : ∃ C, cs.length = C := ⟨_, rfl⟩
  obtain ⟨Q, hQ⟩ : ∃ Q, R * C = Q := ⟨_, rfl⟩
  have HRl := hid hR; have HCl := hid hC; have HQ := hid hQ
  rw [hR] at hrl l1 ⊢
  rw [hC] at hcl m1 ⊢
  have hQb : Q ≤ 4096 := by rw [← hQ]; exact Nat.mul_le_mul hrl.2 hcl.2
  have HN := hid fun W : World => mxNoughts R C W hrl.2 hcl.2
  rw [hR] at CR
  rw [hC] at CC
  rw [hQ] at HN
  clear hR hC hQ
  unfold matV at C1
  unfold matV
  go_enter Try.func42, Try.ntmps42
  go_wp2_with (first
    | (go_at_call 11; refine (C1.out _ (by repeat (first | exact Ext.refl _ | assumption | refine Ext.drew ?_ | refine Ext.drewN ?_ _ | refine Ext.alloc ?_ _ | refine Ext.trans ?_ (by assumption)))).mono ?_; rintro _ w1 ⟨rfl, x1⟩; have HA := hid (hb2.out.1.ext x1); have HR := hid (hb2.out.2.1.ext x1); have HE := hid (hb2.out.2.2.trans x1); obtain ⟨b0, b1, b2⟩ := HA.out.at3)
    | (go_at_call_of 67 br; refine (CR.out _ HE.out).mono ?_; rintro _ _ ⟨rfl, rfl⟩)
    | (go_at_call_of 67 bc; refine (CC.out _ HE.out).mono ?_; rintro _ _ ⟨rfl, rfl⟩)
    | fail)
  have hR1 := HR.out.lt
  refine (HN.out _).mono ?_
  rintro _ w2 ⟨g, rfl, hg, hrow, x2⟩
  have HU := hid (Und.start (Q := Q) (r := (R : Int)) (c := (C : Int)) hg hrow List.length_replicate x2)
  unfold matV
  clear b0 b1 b2
  go_wp2_with fail
  obtain ⟨h, hh⟩ : ∃ h, w2.heap.size = h := ⟨_, rfl⟩
  obtain ⟨w3, hw3⟩ : ∃ w3, w2.alloc (.cells #[.int .i64 (R : Int), .int .i64 (C : Int), .slice (some ⟨g, 0, none⟩) Q Q] 25) = w3 := ⟨_, rfl⟩
  rw [hw3, hh] at HU
  rw [hw3, hh]
  clear hh hw3 hrow x2 hg
  obtain ⟨gR, hgR⟩ : ∃ gR, w.heap.size + 1 = gR := ⟨_, rfl⟩
  have hgw : w.heap.size ≤ gR := by omega
  rw [hgR] at HR hR1
  rw [hgR]
  obtain ⟨gA, hgA⟩ : ∃ gA, w.heap.size = gA := ⟨_, rfl⟩
  rw [hgA] at HA
  rw [hgA]
  clear hgR hgA hb2
  go_loopw [42] (fun iv wr => ∃ (i : Nat) (l : List Int), iv = .int .i64 i ∧ i ≤ R ∧ Hid (Und w1 wr h g Q R C l) ∧ Hid (∀ a b, b < C → a < i → l.getD (a * C + b) 0 = xs.getD ((nats rs).getD a 0 * n + (nats cs).getD b 0) 0)) (fun iv _ => R - (intOf iv).toNat)
  case atStart => exact ⟨0, _, rfl, Nat.zero_le _, HU, hid (by omega)⟩
  case round =>
    clear HU
    obtain ⟨i, l, rfl, hi, HU, hl⟩ := hrel
    obtain ⟨o0, o1, o2⟩ := HU.out.box.at3
    by_cases hlt : i < R
    · have gi := ((HE.out.trans HU.out.ext).cells _ _ hbr).trans (KR.out i (by rw [HRl.out]; exact hlt))
      obtain ⟨f, hf⟩ : ∃ f, (nats rs).getD i 0 = f := ⟨_, rfl⟩
      have hfg := nats_get GR.out (i := i) (by rw [HRl.out]; exact hlt)
      rw [hf] at hfg
      rw [hfg.1] at gi
      have hfm := hfg.2
      have Hf := hid hf
      clear hf hfg
      go_wp2_with fail
      refine (mxRow (R : Int) (C : Int) C i g 0 Q Q wr rfl hcl (by omega) (by rw [← HQ.out, ← Nat.succ_mul]; exact Nat.mul_le_mul_right _ hlt) (by omega)).mono ?_
      rintro _ w5 ⟨rfl, x5⟩
      rw [Nat.zero_add]
      have hoQ : i * C + C ≤ Q := by rw [← HQ.out, ← Nat.succ_mul]; exact Nat.mul_le_mul_right _ hlt
      obtain ⟨o, ho⟩ : ∃ o, i * C = o := ⟨_, rfl⟩
      obtain ⟨cp, hcp⟩ : ∃ cp, Q - o = cp := ⟨_, rfl⟩
      rw [ho] at hoQ
      rw [ho, hcp]
      have hcpn : C ≤ cp := by omega
      have hcpb : cp ≤ 9223372036854775807 := by omega
      have Ho := hid ho
      clear ho hcp o0 o1 o2 gi
      have hck := hcap.out f hfm
      have hcells := fun (j : Nat) (hj : j < n) => K.out (f * n + j) (by have := Ok.out.at_ hfm; omega)
      simp only [← Nat.add_assoc] at hcells
      have hfn : f * n + n ≤ cap := hck
      go_wp2_with fail
      go_loopw [52] (fun jv wr => ∃ (j : Nat) (l : List Int), jv = .int .i64 j ∧ j ≤ C ∧ Hid (Und w1 wr h g Q R C l) ∧ Hid (∀ a b, b < C → (a < i ∨ a = i ∧ b < j) → l.getD (a * C + b) 0 = xs.getD ((nats rs).getD a 0 * n + (nats cs).getD b 0) 0)) (fun jv _ => C - (intOf jv).toNat)
      case atStart => exact ⟨0, l, rfl, Nat.zero_le _, hid (HU.out.ext' x5), hid fun a b hb ha => hl.out a b hb (by omega)⟩
      case round =>
        clear HU hl
        obtain ⟨j, l, rfl, hj, HU, hl⟩ := hrel
        rename World => wi
        by_cases hlj : j < C
        · have gj := ((HE.out.trans HU.out.ext).cells _ _ hbc).trans (KC.out j (by rw [HCl.out]; exact hlj))
          obtain ⟨e, he⟩ : ∃ e, (nats cs).getD j 0 = e := ⟨_, rfl⟩
          have heg := nats_get GC.out (i := j) (by rw [HCl.out]; exact hlj)
          rw [he] at heg
          rw [heg.1] at gj
          have hen := heg.2
          have He := hid he
          clear he heg
          have gx := hcells e hen
          obtain ⟨x, ex⟩ : ∃ x, xs.getD (f * n + e) 0 = x := ⟨_, rfl⟩
          rw [ex] at gx
          have Ex := hid ex
          have HC := hid hcells
          clear ex hcells
          obtain ⟨b0, b1, b2⟩ := (HA.out.ext HU.out.ext).at3
          go_wp2_with fail
          refine (mxRow (m : Int) (n : Int) n f b off xs.length cap wi rfl hn (by omega) hck k2).mono ?_
          rintro _ w6 ⟨rfl, x6⟩
          have gx6 := ((HE.out.trans (HU.out.ext.trans x6)).cells _ _ hb).trans gx
          obtain ⟨s, hs⟩ : ∃ s, off + f * n = s := ⟨_, rfl⟩
          obtain ⟨cq, hcq⟩ : ∃ cq, cap - f * n = cq := ⟨_, rfl⟩
          rw [hs] at gx6
          rw [hs, hcq]
          have hcqn : n ≤ cq := by omega
          obtain ⟨t, ht⟩ : ∃ t, o + j = t := ⟨_, rfl⟩
          have htQ : t < Q := by omega
          have Ht := hid (show i * C + j = t by rw [Ho.out]; exact ht)
          obtain ⟨gt, ft⟩ := (HU.out.ext' x6).at_ htQ
          clear hs hcq gx hfn hck b0 b1 b2
          go_wp2_with fail
          go_roundw
          case rel =>
            refine ⟨j + 1, l.set t x, by go_num, by omega, hid ((HU.out.ext' x6).put htQ x), hid fun a b hb ha => ?_⟩
            rw [← Ht.out, put_at x hlj hb (by rw [Ht.out, HU.out.len]; exact htQ)]
            by_cases e : a = i ∧ b = j
            · rw [if_pos e, e.1, e.2, Hf.out, He.out]; exact Ex.out.symm
            · rw [if_neg e]; exact hl.out a b hb (by omega)
          case measure => simp [intOf]; omega
        · obtain rfl : C = j := by omega
          go_wp2_with fail
          go_roundw
          case rel => exact ⟨i + 1, l, by go_num, by omega, HU, hid fun a b hb ha => hl.out a b hb (by omega)⟩
          case measure => simp [intOf]; omega
    · obtain rfl : R = i := by omega
      have hRr := HR.out.ext HU.out.ext
      obtain ⟨r0, r1, r2⟩ := hRr.at3
      have f0 := hRr.frozen 0
      have f1 := hRr.frozen 1
      have f2 := hRr.frozen 2
      have FF := hid (HU.out.fin hRr hR1 (HE.out.trans HU.out.ext) hgw (by omega))
      clear hRr
      go_wp2_with fail
      refine bodyPost_ret (results_cell_row_tmp rfl _ _ gR 25 _ (0, 0) _ rfl FF.out.1 Try.underlying25 rfl (by kernel_rfl)) rfl ?_
      have e : l = pickL n xs (nats rs) (nats cs) := by
        unfold pickL
        rw [nats_len, nats_len, HRl.out, HCl.out]
        exact grid_of (by rw [HU.out.len, HQ.out]) fun a b ha hb => hl.out a b hb ha
      exact ⟨_, rfl, e ▸ FF.out.2.1, FF.out.2.2⟩
end Go.Proofs.Ytlcempbeecdimaa
