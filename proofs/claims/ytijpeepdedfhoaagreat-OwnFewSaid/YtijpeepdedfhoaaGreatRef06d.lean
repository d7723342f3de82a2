/- The document's own answer of layer 6 on rings: Rings; rows of rows of whole numbers. -/
import Derived.Test.YtijpeepdedfhoaaGreatBun09
namespace Go.Proofs.YtijpeepdedfhoaaGreat
open Go.RowKit Go.Maps

/-- in the world w the slice v reads as rows of whole numbers -/
def IntsL (w : World) (v : Value) (ls : List (List Int)) : Prop :=
  ∃ (a : Option Addr) (cap : Nat), v = .slice a ls.length cap ∧ ls.length ≤ cap ∧ cap ≤ 9223372036854775807 ∧
    (0 < ls.length → ∃ b off, a = some ⟨b, off, none⟩ ∧ b < w.heap.size ∧ ∀ j, j < ls.length → ∃ u, w.cell? ⟨b, off + j, none⟩ = some u ∧ Ints .i64 w u (ls.getD j []))
theorem IntsL.ext {w w' : World} {v : Value} {ls : List (List Int)} (h : IntsL w v ls) (he : Ext w w') : IntsL w' v ls := by
  obtain ⟨a, cap, h1, h2, h3, h4⟩ := h
  refine ⟨a, cap, h1, h2, h3, fun hp => ?_⟩
  obtain ⟨b, off, ha, hb, hc⟩ := h4 hp
  refine ⟨b, off, ha, Nat.lt_of_lt_of_le hb he.size, fun j hj => ?_⟩
  obtain ⟨u, c1, c2⟩ := hc j hj
  exact ⟨u, (he.cells _ _ hb).trans c1, c2.ext he⟩
theorem IntsL.nil {w : World} : IntsL w (.slice none 0 0) [] := ⟨none, 0, rfl, by simp, by omega, by simp⟩
/-- what a call answers: rows of whole numbers -/
def RetII (ls : List (List Int)) (w : World) (e : Ending) (w' : World) : Prop := ∃ v, e = .returned v ∧ IntsL w' v ls ∧ Ext w w'

/-- rows that are gathered: the row of them, and each one's own -/
structure RowsI (w0 w : World) (rv : Value) (us : List Value) (ls : List (List Int)) : Prop where
  own : w.ownsRow w0.heap.size 109 1 rv us.length us
  len : us.length = ls.length
  row : ∀ j, j < ls.length → w.ownsRow w0.heap.size 3 1 (us.getD j undef) (ls.getD j []).length ((ls.getD j []).map (Value.int .i64))
  ext : Ext w0 w
theorem RowsI.start (w : World) : RowsI w w (.slice none 0 0) [] [] := ⟨World.ownsRow_nil _ _ _ _, rfl, fun _ h => absurd h (Nat.not_lt_zero _), Ext.refl _⟩
theorem RowsI.ext' {w0 w w' : World} {rv : Value} {us : List Value} {ls : List (List Int)} (h : RowsI w0 w rv us ls) (y : Ext w w') : RowsI w0 w' rv us ls :=
  ⟨ownsRow_ext h.own y, h.len, fun j hj => ownsRow_ext (h.row j hj) y, h.ext.trans y⟩
/-- a row of another kind grows: all stays -/
theorem RowsI.grown {w0 w w' : World} {rv v : Value} {us xs : List Value} {ls : List (List Int)} (h : RowsI w0 w rv us ls) {base n : Nat} (hv : w.ownsRow base 3 1 v n xs) (hb : w0.heap.size ≤ base)
    (ha : ∀ j, j < ls.length → (us.getD j undef).ownBlock = none ∨ (us.getD j undef).ownBlock ≠ v.ownBlock) (hg : w.grownBy w' v.ownBlock) : RowsI w0 w' rv us ls :=
  ⟨h.own.kept hg (ownsRow_apart h.own hv (by decide)), h.len, fun j hj => (h.row j hj).kept hg (ha j hj), h.ext.grown hg fun k e => Nat.le_trans hb (hv.lt k e).1⟩
theorem getD_snoc {α : Type} (l : List α) (x d : α) (j : Nat) : (l ++ [x]).getD j d = if j < l.length then l.getD j d else if j = l.length then x else d := by
  simp only [List.getD, List.getElem?_append]
  split
  · rfl
  · split
    · rename_i h; rw [h, Nat.sub_self]; rfl
    · rw [List.getElem?_eq_none (by simp; omega)]; rfl
/-- a row is put behind -/
theorem RowsI.next {w0 w w' : World} {rv v' u : Value} {us : List Value} {ls : List (List Int)} {l : List Int} (h : RowsI w0 w rv us ls) (hu : w.ownsRow w0.heap.size 3 1 u l.length (l.map (Value.int .i64)))
    (ho : w'.ownsRow w0.heap.size 109 1 v' (us.length + 1) (us ++ [u])) (hg : w.grownBy w' rv.ownBlock) : RowsI w0 w' v' (us ++ [u]) (ls ++ [l]) := by
  refine ⟨by rw [List.length_append]; exact ho, by simp [h.len], fun j hj => ?_, h.ext.grown hg fun k e => (h.own.lt k e).1⟩
  have hlen := h.len
  rw [List.length_append, List.length_cons, List.length_nil] at hj
  rw [getD_snoc, getD_snoc]
  by_cases e : j < ls.length
  · rw [if_pos (by omega), if_pos e]
    exact (h.row j e).kept hg (ownsRow_apart (h.row j e) h.own (by decide))
  · rw [if_neg (by omega), if_neg e, if_pos (by omega), if_pos (by omega)]
    exact hu.kept hg (ownsRow_apart hu h.own (by decide))
theorem RowsI.ints {w0 w : World} {rv : Value} {us : List Value} {ls : List (List Int)} (h : RowsI w0 w rv us ls) : IntsL w rv ls := by
  have hlen := h.len
  have ho := h.own
  obtain ⟨_, ⟨rfl, h1⟩ | ⟨g, cap, cur, rfl, hg, hb, hc1, hc2, hs, ht⟩⟩ := h.own
  · obtain rfl : ls = [] := List.eq_nil_of_length_eq_zero (by omega)
    exact IntsL.nil
  · refine ⟨_, cap, by rw [hlen], by omega, by unfold maxLen at hc2; omega, fun _ => ⟨g, 0, rfl, Blk.lt (t := 109) (cs := cur) hb, fun j hj => ⟨us.getD j undef, ?_, ?_⟩⟩⟩
    · rw [Nat.zero_add, ho.cellAt j (by omega), List.getD, List.getElem?_eq_getElem (show j < us.length by omega)]; rfl
    · obtain ⟨_, _, _, _, hI⟩ := owns_ints (h.row j hj)
      exact hI
theorem info_sip : (Tryz.prog.info? 109).map (fun i => (i.zero, i.size, i.bytes)) = some (some (.slice none 0 0), 1, 24) := by kernel_rfl

/-- the least of the first so many of a ring? -/
def leastTo (p : List Int) (s j : Nat) : Bool := (List.range j).all fun i => decide (s ≤ itL p i s)
theorem leastTo_succ (p : List Int) (s j : Nat) : leastTo p s (j + 1) = (leastTo p s j && decide (s ≤ itL p j s)) := by
  unfold leastTo
  rw [List.range_succ, List.all_append]
  simp
theorem leastTo_all (p : List Int) (s : Nat) : leastTo p s (perL p s) = leastB p s := by
  unfold leastTo leastB ringL tab
  rw [List.all_map]
  congr 1
  funext i
  simp [Function.comp]
theorem ringsTo_none {p : List Int} {k : Nat} (h : leastB p k = false) : ringsTo p (k + 1) = ringsTo p k := by rw [ringsTo_succ, h]; rfl
theorem ringsTo_some {p : List Int} {k : Nat} (h : leastB p k = true) : ringsTo p (k + 1) = ringsTo p k ++ [ringL p k] := by rw [ringsTo_succ, h]; rfl

def lenV : Value → Nat
  | .slice _ n _ => n
  | _ => 0
end Go.Proofs.YtijpeepdedfhoaaGreat
