/- What a call answers that makes a polynomial. -/
import Derived.Test.YtbpbagejblbacaaRow
namespace Go.Proofs.Ytbpbagejblbacaa
open Go.RowKit

/-- what a call answers: a polynomial, and OK -/
def RetT (p : Int) (f : Ser p) (w : World) (e : Ending) (w' : World) : Prop := ∃ v zs, e = .returned (.tuple #[v, .int .i64 0]) ∧ Ints .u64 w' v zs ∧ Pol p zs ∧ pol p zs = f ∧ Ext w w'
end Go.Proofs.Ytbpbagejblbacaa
