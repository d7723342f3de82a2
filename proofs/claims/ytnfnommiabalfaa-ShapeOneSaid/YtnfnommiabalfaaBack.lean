/- slices.Backward: a range over a slice from its end. -/
import Derived.Test.YtnfnommiabalfaaBun04
import Derived.RangeFuncBox
import Derived.RangeFuncLeaves
import Derived.RangeFuncFrom
import Derived.Shelf.Abstract
import Derived.WalkKit
import Derived.OwnWalkIn
import Derived.TacticsInMore
import Derived.LoopNIn
import Derived.LoopIn
import Derived.Test.YtnfnommiabalfaaRows
namespace Go.Proofs.Ytnfnommiabalfaa
open Go.RowKit Go.Shelf

attribute [local go_sem] Oper.semAt_some

/-- the slice's box and its cells are as they were -/
def KeepsRow (Bs b : Nat) (W W' : World) : Prop := W'.cell? ⟨Bs, 0, none⟩ = W.cell? ⟨Bs, 0, none⟩ ∧ ∀ o, W'.cell? ⟨b, o, none⟩ = W.cell? ⟨b, o, none⟩
theorem KeepsRow.refl (Bs b : Nat) (W : World) : KeepsRow Bs b W W := ⟨rfl, fun _ => rfl⟩
theorem KeepsRow.trans {Bs b : Nat} {A B C : World} (h : KeepsRow Bs b A B) (h' : KeepsRow Bs b B C) : KeepsRow Bs b A C := ⟨h'.1.trans h.1, fun o => (h'.2 o).trans (h.2 o)⟩
theorem KeepsRow.put {Bs b n : Nat} (h : Bs < n) (h' : b < n) (W : World) (l : Nat) (o' : Obj) (hl : n ≤ l) : KeepsRow Bs b W (W.putObj l o') := by
  have e : ∀ k, k < n → ∀ o, (W.putObj l o').cell? ⟨k, o, none⟩ = W.cell? ⟨k, o, none⟩ := fun k hk o => by
    unfold World.cell?
    rw [show (W.putObj l o').heap[(⟨k, o, none⟩ : Addr).block]? = W.heap[(⟨k, o, none⟩ : Addr).block]? from World.putObj_heap_other (show k ≠ l by omega)]
  exact ⟨e Bs h 0, e b h'⟩
end Go.Proofs.Ytnfnommiabalfaa
