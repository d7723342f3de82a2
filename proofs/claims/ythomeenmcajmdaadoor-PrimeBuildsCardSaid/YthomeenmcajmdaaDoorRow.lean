/- Rows of numbers that a call made and may write; sums and differences place by place. -/
import Derived.Test.YthomeenmcajmdaaDoorBun04
import Derived.Test.YthomeenmcajmdaaDoorPKit
import Derived.Laws.CopyOwn
namespace Go.Proofs.YthomeenmcajmdaaDoor
open Go.RowKit

/-- the numbers xs lie in block g from off on, and may be written -/
def WRow (w : World) (g off : Nat) (xs : List Int) : Prop :=
  g < w.heap.size ∧ ∀ j, j < xs.length → w.cell? ⟨g, off + j, none⟩ = some (.int .u64 (xs.getD j 0)) ∧ w.frozen? ⟨g, off + j, none⟩ = false
theorem WRow.ext {w w' : World} {g off : Nat} {xs : List Int} (h : WRow w g off xs) (he : Ext w w') : WRow w' g off xs :=
  ⟨Nat.lt_of_lt_of_le h.1 he.size, fun j hj => ⟨(he.cells _ _ h.1).trans (h.2 j hj).1, by rw [Below.frozen (p := ⟨g, off + j, none⟩) he h.1]; exact (h.2 j hj).2⟩⟩
theorem set_get (xs : List Int) (i j : Nat) (x : Int) (hi : i < xs.length) : (xs.set i x).getD j 0 = if i = j then x else xs.getD j 0 := by
  simp only [List.getD, List.getElem?_set]
  split
  · rename_i e
    subst e
    simp
  · rfl
theorem WRow.set_ {w : World} {g off : Nat} {xs : List Int} (h : WRow w g off xs) {i : Nat} (hi : i < xs.length) (x : Int) : WRow (w.setCell ⟨g, off + i, none⟩ (.int .u64 x)) g off (xs.set i x) := by
  refine ⟨by simpa [World.setCell] using h.1, fun j hj => ?_⟩
  rw [List.length_set] at hj
  rw [World.frozen?_setCell, set_get xs i j x hi]
  refine ⟨?_, (h.2 j hj).2⟩
  split
  · rename_i e
    subst e
    exact World.cell?_setCell_same _ _ _ (h.2 i hi).1
  · rename_i e
    refine (World.cell?_setCell_other _ _ _ _ (by intro e'; injection e' with _ e2; omega)).trans (h.2 j hj).1
theorem WRow.ints {w : World} {g off cap : Nat} {xs : List Int} (h : WRow w g off xs) (h1 : xs.length ≤ cap) (h2 : cap ≤ 9223372036854775807) : Ints .u64 w (.slice (some ⟨g, off, none⟩) xs.length cap) xs :=
  Ints.mk h1 h2 h.1 fun j hj => (h.2 j hj).1
theorem WRow.ints' {w : World} {g off cap n : Nat} {xs : List Int} (h : WRow w g off xs) (hn : xs.length = n) (h1 : n ≤ cap) (h2 : cap ≤ 9223372036854775807) : Ints .u64 w (.slice (some ⟨g, off, none⟩) n cap) xs := by
  subst hn; exact h.ints h1 h2
theorem WRow.of_blk {w : World} {g : Nat} {t : TypeId} {xs : List Int} {rest : List Value} (h : Blk w g t ((xs.map (Value.int .u64)) ++ rest).toArray) : WRow w g 0 xs :=
  ⟨h.lt, fun j hj => by
    rw [Nat.zero_add, h.cell j]
    exact ⟨by simp [List.getElem?_append, hj, List.getD], h.frozen j⟩⟩
theorem WRow.made {w : World} {t : TypeId} {g n : Nat} (hg : g = w.heap.size) : WRow (w.alloc (.cells (madeCells #[Value.int .u64 0] n) t)) g 0 (List.replicate n 0) := by
  subst hg
  refine WRow.of_blk (t := t) (rest := []) ?_
  have e : (madeCells #[Value.int .u64 0] n) = ((List.replicate n 0).map (Value.int .u64) ++ []).toArray := by
    simp [madeCells]
    apply Array.ext
    · simp
    · intro i h1 h2
      simp [Nat.mod_one]
  rw [← e]
  exact Blk.new w t _
/-- what a call answers: a polynomial, in memory of its own or in what was there -/
def RetP (p : Int) (f : Ser p) (w : World) (e : Ending) (w' : World) : Prop := ∃ v zs, e = .returned v ∧ Ints .u64 w' v zs ∧ Pol p zs ∧ pol p zs = f ∧ Ext w w'
theorem replicate_get (n j : Nat) : (List.replicate n (0 : Int)).getD j 0 = 0 := by
  simp only [List.getD, List.getElem?_replicate]
  split <;> rfl
theorem pad_get (xs : List Int) (m j : Nat) : (xs ++ List.replicate m 0).getD j 0 = xs.getD j 0 := by
  rcases Nat.lt_or_ge j xs.length with h | h
  · simp [List.getD, List.getElem?_append, h]
  · rw [getD_over h]
    simp only [List.getD, List.getElem?_append, if_neg (Nat.not_lt.2 h), List.getElem?_replicate]
    split <;> rfl
theorem splice_pad {xs : List Int} {n : Nat} : splice ((List.replicate n (0 : Int)).map (Value.int .u64)) 0 (xs.map (Value.int .u64)) = (xs ++ List.replicate (n - xs.length) 0).map (Value.int .u64) := by
  simp [splice, List.drop_replicate]
end Go.Proofs.YthomeenmcajmdaaDoor
