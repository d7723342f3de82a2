/- What the texts Mat2, Mat5, Mat6, Ref06b, Ref06d show, in one text. -/
import Derived.Test.YtdfkojbfgodegaaBun09
import Derived.Deep.RegionHeld3
import Derived.Deep.DrawnRows
import Derived.BigQuiet
/- The document's own answers of layer 5: a matrix times a vector, a vector times a matrix. -/
namespace Go.Proofs.Ytdfkojbfgodegaa
open Go.RowKit Go.Maps

/-- a value that was boxed keeps its cells -/
theorem box_cell {w W : World} {t : TypeId} {cs : Array Value} (hW : Ext (w.alloc (.cells cs t)) W) (j : Nat) : W.cell? ⟨w.heap.size, j, none⟩ = cs[j]? :=
  (hW.cells _ _ (by simp)).trans (cell_new w cs t j)
theorem box3 (w : World) (t : TypeId) (a b c : Value) : ∀ W, Ext (w.alloc (.cells #[a, b, c] t)) W → W.cell? ⟨w.heap.size, 0, none⟩ = some a ∧ W.cell? ⟨w.heap.size, 1, none⟩ = some b ∧ W.cell? ⟨w.heap.size, 2, none⟩ = some c :=
  fun _ hW => ⟨box_cell hW 0, box_cell hW 1, box_cell hW 2⟩
/-- what a call answers: numbers, in memory of its own or not -/
def RetL (l : List Int) (w : World) (e : Ending) (w' : World) : Prop := ∃ v, e = .returned v ∧ Ints .u64 w' v l ∧ Ext w w'

/-- .. in memory of its own -/
def RetLO (l : List Int) (w : World) (e : Ending) (w' : World) : Prop := ∃ a c, e = .returned (.slice a l.length c) ∧ Ints .u64 w' (.slice a l.length c) l ∧ (0 < l.length → ∃ g, a = some ⟨g, 0, none⟩ ∧ w.heap.size ≤ g) ∧ Ext w w'
end Go.Proofs.Ytdfkojbfgodegaa
/- Thin matrices: when the document's own answer takes one for right. -/
namespace Go.Proofs.Ytdfkojbfgodegaa
open Go.RowKit Go.Maps

/-- a thin matrix, as a value -/
def spV (r c : Int) (vb vc vv : Value) : Value := .agg #[.int .i64 r, .int .i64 c, vb, vc, vv]
/-- the k-th number, that lies in row i, is right -/
def CellOk (n : Nat) (bs cs vs : List Int) (i k : Nat) : Prop := vs.getD k 0 ≠ 0 ∧ 0 ≤ cs.getD k 0 ∧ cs.getD k 0 < n ∧ (bs.getD i 0 < k → cs.getD (k - 1) 0 < cs.getD k 0)
structure SpOk (p : Int) (m n : Nat) (bs cs vs : List Int) : Prop where
  m1 : 1 ≤ m ∧ m ≤ 64
  n1 : 1 ≤ n ∧ n ≤ 64
  lb : bs.length = m + 1
  lc : cs.length = vs.length
  hv : hasB p vs = true
  b0 : bs.getD 0 0 = 0
  bm : bs.getD m 0 = cs.length
  mono : ∀ i, i < m → bs.getD i 0 ≤ bs.getD (i + 1) 0
  row : ∀ i, i < m → ∀ k : Nat, bs.getD i 0 ≤ k → k < bs.getD (i + 1) 0 → CellOk n bs cs vs i k
theorem mono_ge {m : Nat} {bs : List Int} (h : ∀ i, i < m → bs.getD i 0 ≤ bs.getD (i + 1) 0) : ∀ i j, i ≤ j → j ≤ m → bs.getD i 0 ≤ bs.getD j 0 := by
  intro i j hij hj
  induction j with
  | zero => obtain rfl : i = 0 := by omega
            exact Int.le_refl _
  | succ j ih =>
    by_cases e : i = j + 1
    · rw [e]; exact Int.le_refl _
    · exact Int.le_trans (ih (by omega) (by omega)) (h j (by omega))

end Go.Proofs.Ytdfkojbfgodegaa
/- Thin matrices: what the document's own answer looks at, row by row. -/
namespace Go.Proofs.Ytdfkojbfgodegaa
open Go.RowKit Go.Maps

theorem box5 (w : World) (t : TypeId) (a b c d e : Value) : ∀ W, Ext (w.alloc (.cells #[a, b, c, d, e] t)) W → W.cell? ⟨w.heap.size, 0, none⟩ = some a ∧ W.cell? ⟨w.heap.size, 1, none⟩ = some b ∧ W.cell? ⟨w.heap.size, 2, none⟩ = some c ∧ W.cell? ⟨w.heap.size, 3, none⟩ = some d ∧ W.cell? ⟨w.heap.size, 4, none⟩ = some e :=
  fun _ hW => ⟨box_cell hW 0, box_cell hW 1, box_cell hW 2, box_cell hW 3, box_cell hW 4⟩

end Go.Proofs.Ytdfkojbfgodegaa
/- The document's own answers of layer 6: Back, Do, Sign, Same. -/
namespace Go.Proofs.Ytdfkojbfgodegaa
open Go.RowKit Go.Maps

/-- how many of the first k stand wrong ahead of the i-th -/
def gtTo (p : List Int) (i k : Nat) : Nat := (p.take k).countP fun x => decide (p.getD i 0 < x)
theorem gtTo_le (p : List Int) (i k : Nat) : gtTo p i k ≤ k := Nat.le_trans List.countP_le_length (by simp; omega)
theorem take_snoc_getD {p : List Int} {k : Nat} (h : k < p.length) : p.take (k + 1) = p.take k ++ [p.getD k 0] := by
  rw [List.take_succ_eq_append_getElem h]; simp [List.getD, h]
theorem gtTo_succ {p : List Int} {i k : Nat} (h : k < p.length) : gtTo p i (k + 1) = gtTo p i k + if p.getD i 0 < p.getD k 0 then 1 else 0 := by
  unfold gtTo
  rw [take_snoc_getD h, List.countP_append, List.countP_cons, List.countP_nil]
  simp
theorem inv_take_succ {p : List Int} {i : Nat} (h : i < p.length) : invL (p.take (i + 1)) = invL (p.take i) + gtTo p i i := by
  rw [take_snoc_getD h, inv_snoc]; rfl
theorem inv_take_le (p : List Int) : ∀ i, i ≤ p.length → invL (p.take i) ≤ i * p.length
  | 0, _ => by simp [invL]
  | i + 1, h => by
    have := inv_take_le p i (by omega)
    have := gtTo_le p i i
    rw [inv_take_succ (by omega), Nat.succ_mul]
    omega
end Go.Proofs.Ytdfkojbfgodegaa
/- The document's own answer of layer 6 on rings: Rings; rows of rows of whole numbers. -/
namespace Go.Proofs.Ytdfkojbfgodegaa
open Go.RowKit Go.Maps

/-- in the world w the slice v reads as rows of whole numbers -/
def IntsL (w : World) (v : Value) (ls : List (List Int)) : Prop :=
  ∃ (a : Option Addr) (cap : Nat), v = .slice a ls.length cap ∧ ls.length ≤ cap ∧ cap ≤ 9223372036854775807 ∧
    (0 < ls.length → ∃ b off, a = some ⟨b, off, none⟩ ∧ b < w.heap.size ∧ ∀ j, j < ls.length → ∃ u, w.cell? ⟨b, off + j, none⟩ = some u ∧ Ints .i64 w u (ls.getD j []))
theorem IntsL.ext {w w' : World} {v : Value} {ls : List (List Int)} (h : IntsL w v ls) (he : Ext w w') : IntsL w' v ls := by
  obtain ⟨a, cap, h1, h2, h3, h4⟩ := h
  refine ⟨a, cap, h1, h2, h3, fun hp => ?_⟩
  obtain ⟨b, off, ha, hb, hc⟩ := h4 hp
  refine ⟨b, off, ha, Nat.lt_of_lt_of_le hb he.size, fun j hj => ?_⟩
  obtain ⟨u, c1, c2⟩ := hc j hj
  exact ⟨u, (he.cells _ _ hb).trans c1, c2.ext he⟩
theorem IntsL.nil {w : World} : IntsL w (.slice none 0 0) [] := ⟨none, 0, rfl, by simp, by omega, by simp⟩
/-- what a call answers: rows of whole numbers -/
def RetII (ls : List (List Int)) (w : World) (e : Ending) (w' : World) : Prop := ∃ v, e = .returned v ∧ IntsL w' v ls ∧ Ext w w'

/-- rows that are gathered: the row of them, and each one's own -/
structure RowsI (w0 w : World) (rv : Value) (us : List Value) (ls : List (List Int)) : Prop where
  own : w.ownsRow w0.heap.size 48 1 rv us.length us
  len : us.length = ls.length
  row : ∀ j, j < ls.length → w.ownsRow w0.heap.size 3 1 (us.getD j undef) (ls.getD j []).length ((ls.getD j []).map (Value.int .i64))
  ext : Ext w0 w
theorem RowsI.start (w : World) : RowsI w w (.slice none 0 0) [] [] := ⟨World.ownsRow_nil _ _ _ _, rfl, fun _ h => absurd h (Nat.not_lt_zero _), Ext.refl _⟩
theorem RowsI.ext' {w0 w w' : World} {rv : Value} {us : List Value} {ls : List (List Int)} (h : RowsI w0 w rv us ls) (y : Ext w w') : RowsI w0 w' rv us ls :=
  ⟨ownsRow_ext h.own y, h.len, fun j hj => ownsRow_ext (h.row j hj) y, h.ext.trans y⟩
/-- a row of another kind grows: all stays -/
theorem RowsI.grown {w0 w w' : World} {rv v : Value} {us xs : List Value} {ls : List (List Int)} (h : RowsI w0 w rv us ls) {base n : Nat} (hv : w.ownsRow base 3 1 v n xs) (hb : w0.heap.size ≤ base)
    (ha : ∀ j, j < ls.length → (us.getD j undef).ownBlock = none ∨ (us.getD j undef).ownBlock ≠ v.ownBlock) (hg : w.grownBy w' v.ownBlock) : RowsI w0 w' rv us ls :=
  ⟨h.own.kept hg (ownsRow_apart h.own hv (by decide)), h.len, fun j hj => (h.row j hj).kept hg (ha j hj), h.ext.grown hg fun k e => Nat.le_trans hb (hv.lt k e).1⟩
theorem getD_snoc {α : Type} (l : List α) (x d : α) (j : Nat) : (l ++ [x]).getD j d = if j < l.length then l.getD j d else if j = l.length then x else d := by
  simp only [List.getD, List.getElem?_append]
  split
  · rfl
  · split
    · rename_i h; rw [h, Nat.sub_self]; rfl
    · rw [List.getElem?_eq_none (by simp; omega)]; rfl
/-- a row is put behind -/
theorem RowsI.next {w0 w w' : World} {rv v' u : Value} {us : List Value} {ls : List (List Int)} {l : List Int} (h : RowsI w0 w rv us ls) (hu : w.ownsRow w0.heap.size 3 1 u l.length (l.map (Value.int .i64)))
    (ho : w'.ownsRow w0.heap.size 48 1 v' (us.length + 1) (us ++ [u])) (hg : w.grownBy w' rv.ownBlock) : RowsI w0 w' v' (us ++ [u]) (ls ++ [l]) := by
  refine ⟨by rw [List.length_append]; exact ho, by simp [h.len], fun j hj => ?_, h.ext.grown hg fun k e => (h.own.lt k e).1⟩
  have hlen := h.len
  rw [List.length_append, List.length_cons, List.length_nil] at hj
  rw [getD_snoc, getD_snoc]
  by_cases e : j < ls.length
  · rw [if_pos (by omega), if_pos e]
    exact (h.row j e).kept hg (ownsRow_apart (h.row j e) h.own (by decide))
  · rw [if_neg (by omega), if_neg e, if_pos (by omega), if_pos (by omega)]
    exact hu.kept hg (ownsRow_apart hu h.own (by decide))
theorem RowsI.ints {w0 w : World} {rv : Value} {us : List Value} {ls : List (List Int)} (h : RowsI w0 w rv us ls) : IntsL w rv ls := by
  have hlen := h.len
  have ho := h.own
  obtain ⟨_, ⟨rfl, h1⟩ | ⟨g, cap, cur, rfl, hg, hb, hc1, hc2, hs, ht⟩⟩ := h.own
  · obtain rfl : ls = [] := List.eq_nil_of_length_eq_zero (by omega)
    exact IntsL.nil
  · refine ⟨_, cap, by rw [hlen], by omega, by unfold maxLen at hc2; omega, fun _ => ⟨g, 0, rfl, Blk.lt (t := 48) (cs := cur) hb, fun j hj => ⟨us.getD j undef, ?_, ?_⟩⟩⟩
    · rw [Nat.zero_add, ho.cellAt j (by omega), List.getD, List.getElem?_eq_getElem (show j < us.length by omega)]; rfl
    · obtain ⟨_, _, _, _, hI⟩ := owns_ints (h.row j hj)
      exact hI
theorem info_sip : (Try.prog.info? 48).map (fun i => (i.zero, i.size, i.bytes)) = some (some (.slice none 0 0), 1, 24) := by kernel_rfl

/-- the least of the first so many of a ring? -/
def leastTo (p : List Int) (s j : Nat) : Bool := (List.range j).all fun i => decide (s ≤ itL p i s)
theorem leastTo_succ (p : List Int) (s j : Nat) : leastTo p s (j + 1) = (leastTo p s j && decide (s ≤ itL p j s)) := by
  unfold leastTo
  rw [List.range_succ, List.all_append]
  simp
theorem leastTo_all (p : List Int) (s : Nat) : leastTo p s (perL p s) = leastB p s := by
  unfold leastTo leastB ringL tab
  rw [List.all_map]
  congr 1
  funext i
  simp [Function.comp]
theorem ringsTo_none {p : List Int} {k : Nat} (h : leastB p k = false) : ringsTo p (k + 1) = ringsTo p k := by rw [ringsTo_succ, h]; rfl
theorem ringsTo_some {p : List Int} {k : Nat} (h : leastB p k = true) : ringsTo p (k + 1) = ringsTo p k ++ [ringL p k] := by rw [ringsTo_succ, h]; rfl

def lenV : Value → Nat
  | .slice _ n _ => n
  | _ => 0
end Go.Proofs.Ytdfkojbfgodegaa
