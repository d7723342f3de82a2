import Derived.Test.YthomeenmcajmdaaGreatDoorBun04
import Derived.Deep.RegionHeld3
import Derived.Deep.DrawnRows
namespace Go.Proofs.YthomeenmcajmdaaGreatDoor
open Go.RowKit Go.Maps
theorem box_cell {w W : World} {t : TypeId} {cs : Array Value} (hW : Ext (w.alloc (.cells cs t)) W) (j : Nat) : W.cell? ⟨w.heap.size, j, none⟩ = cs[j]? :=
  (hW.cells _ _ (by simp)).trans (cell_new w cs t j)
theorem box3 (w : World) (t : TypeId) (a b c : Value) : ∀ W, Ext (w.alloc (.cells #[a, b, c] t)) W → W.cell? ⟨w.heap.size, 0, none⟩ = some a ∧ W.cell? ⟨w.heap.size, 1, none⟩ = some b ∧ W.cell? ⟨w.heap.size, 2, none⟩ = some c :=
  fun _ hW => ⟨box_cell hW 0, box_cell hW 1, box_cell hW 2⟩
def RetL (l : List Int) (w : World) (e : Ending) (w' : World) : Prop := ∃ v, e = .returned v ∧ Ints .u64 w' v l ∧ Ext w w'
end Go.Proofs.YthomeenmcajmdaaGreatDoor
