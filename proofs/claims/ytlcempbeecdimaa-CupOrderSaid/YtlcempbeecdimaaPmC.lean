/- Forms of what the functions of package perm answer. -/
import Derived.Test.YtlcempbeecdimaaRef06c
import Derived.Test.YtlcempbeecdimaaCupB7
import Derived.Test.YtlcempbeecdimaaRetG
import Derived.Test.YtlcempbeecdimaaCupB5
namespace Go.Proofs.Ytlcempbeecdimaa
open Go.RowKit

/-- rows of whole numbers, or that something isn't right -/
def RetGII (ok : Bool) (ls : List (List Int)) (w : World) (e : Ending) (w' : World) : Prop :=
  ∃ (v : Value) (l' : List (List Int)) (ee : Int), e = .returned (.tuple #[v, .int .i64 ee]) ∧ IntsL w' v l' ∧ ee = (if ok = true then 0 else 1) ∧ l' = (if ok = true then ls else []) ∧ Ext w w'
/-- as many cells as it should be? -/
def shB (r c : Int) (xs : List Int) : Bool := decide (1 ≤ r ∧ r ≤ 64) && (decide (1 ≤ c ∧ c ≤ 64) && decide ((xs.length : Int) = r * c))
end Go.Proofs.Ytlcempbeecdimaa
