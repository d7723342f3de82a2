import Derived.Test.YthomeenmcajmdaaGreatDoorBun25
import Derived.Test.YthomeenmcajmdaaGreatDoorBun23
import Derived.Test.YthomeenmcajmdaaGreatDoorBun22
import Derived.Test.YthomeenmcajmdaaGreatDoorBun27
import Derived.Test.YthomeenmcajmdaaGreatDoorBun05
import Derived.Test.YthomeenmcajmdaaGreatDoorBun18
import Derived.RangeFuncLeaves
namespace Go.Proofs.YthomeenmcajmdaaGreatDoor
open Go.RowKit Go.Maps Go.Shelf
attribute [local go_sem] Oper.semAt_some
def DoS (w1 W : World) (T n : Nat) (s : List Int) : Prop := ∃ g, Blk W (T + 1) 24 #[.slice (some ⟨g, 0, none⟩) n n] ∧ WRow W g 0 s ∧ g ≠ T + 1 ∧ g ≠ T + 1 + 1 ∧ T ≤ g ∧ Ext w1 W ∧ T + 1 + 1 + 1 ≤ W.heap.size
theorem cells_ne {w : World} {g : Nat} {t : TypeId} {cs : Array Value} (h : w.heap[g]? = some (.cells cs t (0, 0))) {row : Option Nat} (hr : ∀ r, row = some r → ∃ o : Obj, w.heap[r]? = some o ∧ o.isCells = false) : row ≠ some g := fun e => by
  obtain ⟨o, ho, hc⟩ := hr g e
  rw [h] at ho
  cases ho; cases hc
theorem DoS.own {w1 W W' : World} {T n : Nat} {s : List Int} (h : DoS w1 W T n s) {row : Option Nat} (hg : W.grownBy W' row) (hr : ∀ r, row = some r → w1.heap.size ≤ r ∧ ∃ o : Obj, W.heap[r]? = some o ∧ o.isCells = false) : DoS w1 W' T n s := by
  obtain ⟨g, h1, h2, h3, h4, h5, h6, h7⟩ := h
  refine ⟨g, h1.grown hg (cells_ne h1 fun r e => (hr r e).2), ?_, h3, h4, h5, h6.grown hg fun k e => (hr k e).1, Nat.le_trans h7 hg.size⟩
  rcases Nat.eq_zero_or_pos s.length with h0 | h0
  · exact ⟨Nat.lt_of_lt_of_le h2.1 hg.size, fun j hj => by omega⟩
  · refine h2.grown hg fun e => ?_
    obtain ⟨o, ho, hc⟩ := h2.cells h0
    obtain ⟨o', ho', hc'⟩ := (hr g e).2
    rw [ho] at ho'
    cases ho'; rw [hc] at hc'; cases hc'
end Go.Proofs.YthomeenmcajmdaaGreatDoor
