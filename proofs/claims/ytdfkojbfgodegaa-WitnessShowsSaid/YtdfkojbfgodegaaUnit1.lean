/- A slice of noughts whose number at one place is 1, as the walk lays it down. -/
import Derived.Test.YtdfkojbfgodegaaBun06
import Derived.Test.YtdfkojbfgodegaaBoxes
namespace Go.Proofs.Ytdfkojbfgodegaa
open Go.RowKit Go.Maps

theorem made_cells (n : Nat) : (madeCells #[Value.int .u64 0] n) = ((List.replicate n 0).map (Value.int .u64)).toArray := by
  simp [madeCells]
  apply Array.ext
  · simp
  · intro i h1 h2
    simp [Nat.mod_one]
theorem made_get {n i : Nat} (hi : i < n) : (madeCells #[Value.int .u64 0] n)[i]? = some (.int .u64 0) := by rw [made_cells]; simp [hi]
theorem WRow.made1 {w : World} {t : TypeId} {g n i : Nat} (hg : g = w.heap.size) : WRow (w.alloc (.cells ((madeCells #[Value.int .u64 0] n).setIfInBounds i (.int .u64 1)) t)) g 0 ((List.replicate n 0).set i 1) := by
  subst hg
  refine WRow.of_blk (t := t) (rest := []) ?_
  have e : (madeCells #[Value.int .u64 0] n).setIfInBounds i (.int .u64 1) = ((((List.replicate n (0 : Int)).set i 1).map (Value.int .u64)) ++ []).toArray := by
    rw [made_cells, List.append_nil, List.map_set, List.setIfInBounds_toArray]
  rw [← e]
  exact Blk.new w t _
end Go.Proofs.Ytdfkojbfgodegaa
