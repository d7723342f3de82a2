/- What calls answer in one form, whether what they were given is right or not: numbers, matrices, thin ones, orders. -/
import Derived.Test.YtlcempbeecdimaaKit
namespace Go.Proofs.Ytlcempbeecdimaa
open Go.RowKit

/-- numbers, or that something isn't right -/
def RetG (ok : Bool) (l : List Int) (w : World) (e : Ending) (w' : World) : Prop :=
  ∃ (v : Value) (l' : List Int) (ee : Int), e = .returned (.tuple #[v, .int .i64 ee]) ∧ Ints .u64 w' v l' ∧ ee = (if ok = true then 0 else 1) ∧ l' = (if ok = true then l else []) ∧ Ext w w'
/-- a matrix, or that something isn't right -/
def RetGM (ok : Bool) (r c : Int) (l : List Int) (w : World) (e : Ending) (w' : World) : Prop :=
  ∃ (rx cx : Int) (v : Value) (l' : List Int) (ee : Int), e = .returned (.tuple #[.agg #[.int .i64 rx, .int .i64 cx, v], .int .i64 ee]) ∧ Ints .u64 w' v l' ∧ ee = (if ok = true then 0 else 1) ∧ l' = (if ok = true then l else []) ∧ (ok = true → rx = r ∧ cx = c) ∧ Ext w w'
/-- a thin one, or that something isn't right -/
def RetGS (ok : Bool) (r c : Int) (bs cs vs : List Int) (w : World) (e : Ending) (w' : World) : Prop :=
  ∃ (rx cx : Int) (vb vc vv : Value) (lb lc lv : List Int) (ee : Int), e = .returned (.tuple #[.agg #[.int .i64 rx, .int .i64 cx, vb, vc, vv], .int .i64 ee]) ∧ Ints .i64 w' vb lb ∧ Ints .i64 w' vc lc ∧ Ints .u64 w' vv lv ∧ ee = (if ok = true then 0 else 1) ∧ lv = (if ok = true then vs else []) ∧ (ok = true → rx = r ∧ cx = c ∧ lb = bs ∧ lc = cs) ∧ Ext w w'
/-- whole numbers, or that something isn't right -/
def RetGI (ok : Bool) (l : List Int) (w : World) (e : Ending) (w' : World) : Prop :=
  ∃ (v : Value) (l' : List Int) (ee : Int), e = .returned (.tuple #[v, .int .i64 ee]) ∧ Ints .i64 w' v l' ∧ ee = (if ok = true then 0 else 1) ∧ l' = (if ok = true then l else []) ∧ Ext w w'
/-- whole numbers, and no error -/
def RetVI (l : List Int) (w : World) (e : Ending) (w' : World) : Prop := ∃ v, e = .returned (.tuple #[v, .int .i64 0]) ∧ Ints .i64 w' v l ∧ Ext w w'
/-- numbers, and no error -/
def RetVU (l : List Int) (w : World) (e : Ending) (w' : World) : Prop := ∃ v, e = .returned (.tuple #[v, .int .i64 0]) ∧ Ints .u64 w' v l ∧ Ext w w'
theorem RetGI.yes {l : List Int} {w : World} {e : Ending} {w' : World} (h : RetGI true l w e w') : RetVI l w e w' := by
  obtain ⟨v, l', ee, h1, h2, h3, h4, h5⟩ := h
  simp only [if_true] at h3 h4
  subst h3; subst h4
  exact ⟨v, h1, h2, h5⟩
theorem RetG.yes {l : List Int} {w : World} {e : Ending} {w' : World} (h : RetG true l w e w') : RetVU l w e w' := by
  obtain ⟨v, l', ee, h1, h2, h3, h4, h5⟩ := h
  simp only [if_true] at h3 h4
  subst h3; subst h4
  exact ⟨v, h1, h2, h5⟩
/-- whole numbers of 64 bits -/
def I64s (xs : List Int) : Prop := ∀ x ∈ xs, -9223372036854775808 ≤ x ∧ x ≤ 9223372036854775807
end Go.Proofs.Ytlcempbeecdimaa
