/- Arguments that are structs: tapes. -/
import Derived.Test.YtcganfmlfoebpaaOpenMat
namespace Go.Proofs.Ytcganfmlfoebpaa
open Go.RowKit Go.ChangeShapes Go.WideShapes Go.ChangeAt Go.Deep Go.Joins
variable {H : Type} {enc : TypeId × Value → H} {W : World} {base : Nat} {spare : Nat → Bool}
set_option maxRecDepth 100000 in
theorem open_Tape {v : Value} {d : DataW H} {ps : List MemPlace} (hval : Value.okWide Try.prog W .any base 25 v) (hd : DataW.Trod enc Try.prog W 0 spare true 25 v d ps) :
    ∃ (u : Value) (xs : List Int) (k : Int), v = .agg #[u, .int .i64 k] ∧ Ints .u64 W u xs ∧ (∀ x ∈ xs, (Lit.int .u64 x).wf = true) ∧ (Lit.int .i64 k).wf = true := by
  obtain ⟨v0, v1, y0, y1, n, rfl, _, _, h0, h1⟩ := open_agg2 Try.underlying25 (by kernel_rfl) (by kernel_rfl) hval hd
  obtain ⟨xs, i, w⟩ := trod_Ints Try.underlying23 Try.underlying22 (by kernel_rfl) h0
  obtain ⟨k, rfl, hk⟩ := trod_Int Try.underlying3 h1
  exact ⟨v0, xs, k, rfl, i, w, hk⟩
end Go.Proofs.Ytcganfmlfoebpaa
