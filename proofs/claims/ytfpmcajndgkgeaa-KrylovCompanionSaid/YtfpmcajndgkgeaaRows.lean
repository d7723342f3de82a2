/-
  No cell of these rows narrows 'for every input' (looked for: loops, veiled, ifaces, maps, wideKeys, modest, calm, conditions, laid).
  DERIVED. THE GIVEN ROWS OF THIS SEAT. 6 by the template 'for every input the law returns true; each argument reads behind the call as it read before'; 0 by the template 'total and deterministic' (their statements: YtfpmcajndgkgeaaTotals.lean).
  GIVEN WITH THE SEED: the statements are not yours to turn. If you find one false, say at which input.
  Laid BY PROGRAM, IN A SANDBOX (cutbox-rows.mjs): the forced cells as the released guide's own fill.sh prints them over the translation 10199c4417876ecf… (all of the seat's roots in one cut). By AI agents, Wed Nov 11 2026. No macro, syntax, notation, axiom, sorry.
-/
import Derived.Test.YtfpmcajndgkgeaaChecked
import GoSem.Claim
import GoSem.ClaimJoined
import GoSem.ClaimMapViews
import Derived.JoinedTies
import Derived.KernelRfl
namespace Go.Proofs.Ytfpmcajndgkgeaa
/- THE CELL 'sum', in the pinned program and in every row, IS THE sha256 OF THE DUMP (.gsa) THAT YtfpmcajndgkgeaaProg.lean LOADS. Nothing in Lean hashes anything: it is a label: what it is worth is what the hold of that sum in a sandbox is worth. -/
noncomputable def Try.pinned : Pinned := { name := "ytfpmcajndgkgeaa", sum := "10199c4417876ecf2ce88dd9356eb5c6054f9d7f225814b8d6e0c8a77afb6da9", checked := Try.checked }
namespace Rows
def none {H : Type} : Left H := { results := [], args := [] }

/-- 'affidavitlaw08.SolveRight': WHATEVER THE INPUT: true; the input reads as it did. -/
def solveRightSpec : ChangeSpec := { name := "solveRight", fn := fun _ => fun
  | [d1, d2, d3, d4] => { results := [.lit (.bool true)], args := [d1, d2, d3, d4] }
  | _ => none }
def solveRightRow : OpenClaim := { program := "ytfpmcajndgkgeaa", sum := "10199c4417876ecf2ce88dd9356eb5c6054f9d7f225814b8d6e0c8a77afb6da9", func := "affidavit/affidavitlaw08.SolveRight", spec := "solveRight", inPlace := ["math/bits.Add64"], unfollowed := true, recurses := true, named := ["math/bits.divideError", "math/bits.overflowError"], apart := false }
def SolveRightSaid : Prop := solveRightRow.holds Try.pinned (OpenSpec.ofChange solveRightSpec)

/-- ITS FALSE NEIGHBOUR: 'it returns false'. Refute it at one input. -/
def solveRightWrong : ChangeSpec := { name := "solveRight", fn := fun _ => fun
  | [d1, d2, d3, d4] => { results := [.lit (.bool false)], args := [d1, d2, d3, d4] }
  | _ => none }
def SolveRightWrongFalsely : Prop := solveRightRow.holds Try.pinned (OpenSpec.ofChange solveRightWrong)

/-- 'affidavitlaw09.KrylovRight': WHATEVER THE INPUT: true; the input reads as it did. -/
def krylovRightSpec : ChangeSpec := { name := "krylovRight", fn := fun _ => fun
  | [d1, d2, d3, d4, d5] => { results := [.lit (.bool true)], args := [d1, d2, d3, d4, d5] }
  | _ => none }
def krylovRightRow : OpenClaim := { program := "ytfpmcajndgkgeaa", sum := "10199c4417876ecf2ce88dd9356eb5c6054f9d7f225814b8d6e0c8a77afb6da9", func := "affidavit/affidavitlaw09.KrylovRight", spec := "krylovRight", inPlace := ["math/bits.Add64"], unfollowed := true, recurses := true, named := ["math/bits.divideError", "math/bits.overflowError"], apart := false }
def KrylovRightSaid : Prop := krylovRightRow.holds Try.pinned (OpenSpec.ofChange krylovRightSpec)

/-- ITS FALSE NEIGHBOUR: 'it returns false'. Refute it at one input. -/
def krylovRightWrong : ChangeSpec := { name := "krylovRight", fn := fun _ => fun
  | [d1, d2, d3, d4, d5] => { results := [.lit (.bool false)], args := [d1, d2, d3, d4, d5] }
  | _ => none }
def KrylovRightWrongFalsely : Prop := krylovRightRow.holds Try.pinned (OpenSpec.ofChange krylovRightWrong)

/-- 'affidavitlaw09.KrylovLeast': WHATEVER THE INPUT: true; the input reads as it did. -/
def krylovLeastSpec : ChangeSpec := { name := "krylovLeast", fn := fun _ => fun
  | [d1, d2, d3, d4] => { results := [.lit (.bool true)], args := [d1, d2, d3, d4] }
  | _ => none }
def krylovLeastRow : OpenClaim := { program := "ytfpmcajndgkgeaa", sum := "10199c4417876ecf2ce88dd9356eb5c6054f9d7f225814b8d6e0c8a77afb6da9", func := "affidavit/affidavitlaw09.KrylovLeast", spec := "krylovLeast", inPlace := ["math/bits.Add64"], unfollowed := true, recurses := true, named := ["math/bits.divideError", "math/bits.overflowError"], apart := false }
def KrylovLeastSaid : Prop := krylovLeastRow.holds Try.pinned (OpenSpec.ofChange krylovLeastSpec)

/-- ITS FALSE NEIGHBOUR: 'it returns false'. Refute it at one input. -/
def krylovLeastWrong : ChangeSpec := { name := "krylovLeast", fn := fun _ => fun
  | [d1, d2, d3, d4] => { results := [.lit (.bool false)], args := [d1, d2, d3, d4] }
  | _ => none }
def KrylovLeastWrongFalsely : Prop := krylovLeastRow.holds Try.pinned (OpenSpec.ofChange krylovLeastWrong)

/-- 'affidavitlaw09.KrylovCompanion': WHATEVER THE INPUT: true; the input reads as it did. -/
def krylovCompanionSpec : ChangeSpec := { name := "krylovCompanion", fn := fun _ => fun
  | [d1, d2, d3, d4] => { results := [.lit (.bool true)], args := [d1, d2, d3, d4] }
  | _ => none }
def krylovCompanionRow : OpenClaim := { program := "ytfpmcajndgkgeaa", sum := "10199c4417876ecf2ce88dd9356eb5c6054f9d7f225814b8d6e0c8a77afb6da9", func := "affidavit/affidavitlaw09.KrylovCompanion", spec := "krylovCompanion", inPlace := ["math/bits.Add64"], unfollowed := true, recurses := true, named := ["math/bits.divideError", "math/bits.overflowError"], apart := false }
def KrylovCompanionSaid : Prop := krylovCompanionRow.holds Try.pinned (OpenSpec.ofChange krylovCompanionSpec)

/-- ITS FALSE NEIGHBOUR: 'it returns false'. Refute it at one input. -/
def krylovCompanionWrong : ChangeSpec := { name := "krylovCompanion", fn := fun _ => fun
  | [d1, d2, d3, d4] => { results := [.lit (.bool false)], args := [d1, d2, d3, d4] }
  | _ => none }
def KrylovCompanionWrongFalsely : Prop := krylovCompanionRow.holds Try.pinned (OpenSpec.ofChange krylovCompanionWrong)

/-- 'affidavitlaw09.KrylovSeries': WHATEVER THE INPUT: true; the input reads as it did. -/
def krylovSeriesSpec : ChangeSpec := { name := "krylovSeries", fn := fun _ => fun
  | [d1, d2, d3, d4] => { results := [.lit (.bool true)], args := [d1, d2, d3, d4] }
  | _ => none }
def krylovSeriesRow : OpenClaim := { program := "ytfpmcajndgkgeaa", sum := "10199c4417876ecf2ce88dd9356eb5c6054f9d7f225814b8d6e0c8a77afb6da9", func := "affidavit/affidavitlaw09.KrylovSeries", spec := "krylovSeries", inPlace := ["math/bits.Add64"], unfollowed := true, recurses := true, named := ["math/bits.divideError", "math/bits.overflowError"], apart := false }
def KrylovSeriesSaid : Prop := krylovSeriesRow.holds Try.pinned (OpenSpec.ofChange krylovSeriesSpec)

/-- ITS FALSE NEIGHBOUR: 'it returns false'. Refute it at one input. -/
def krylovSeriesWrong : ChangeSpec := { name := "krylovSeries", fn := fun _ => fun
  | [d1, d2, d3, d4] => { results := [.lit (.bool false)], args := [d1, d2, d3, d4] }
  | _ => none }
def KrylovSeriesWrongFalsely : Prop := krylovSeriesRow.holds Try.pinned (OpenSpec.ofChange krylovSeriesWrong)

/-- 'affidavitlaw09.KrylovRing': WHATEVER THE INPUT: true; the input reads as it did. -/
def krylovRingSpec : ChangeSpec := { name := "krylovRing", fn := fun _ => fun
  | [d1, d2, d3, d4, d5] => { results := [.lit (.bool true)], args := [d1, d2, d3, d4, d5] }
  | _ => none }
def krylovRingRow : OpenClaim := { program := "ytfpmcajndgkgeaa", sum := "10199c4417876ecf2ce88dd9356eb5c6054f9d7f225814b8d6e0c8a77afb6da9", func := "affidavit/affidavitlaw09.KrylovRing", spec := "krylovRing", inPlace := ["math/bits.Add64"], unfollowed := true, recurses := true, named := ["math/bits.divideError", "math/bits.overflowError"], apart := false }
def KrylovRingSaid : Prop := krylovRingRow.holds Try.pinned (OpenSpec.ofChange krylovRingSpec)

/-- ITS FALSE NEIGHBOUR: 'it returns false'. Refute it at one input. -/
def krylovRingWrong : ChangeSpec := { name := "krylovRing", fn := fun _ => fun
  | [d1, d2, d3, d4, d5] => { results := [.lit (.bool false)], args := [d1, d2, d3, d4, d5] }
  | _ => none }
def KrylovRingWrongFalsely : Prop := krylovRingRow.holds Try.pinned (OpenSpec.ofChange krylovRingWrong)

/- THE SECOND FORM. 'bulk': how many values and letters a reading holds, each counted each time it is reached (what is shared counts as often as it is met; a slice's spare places count too). A statement '..UptoSaid' is the law's where the arguments, and the package variables that the reading takes, are together of bulk at most 1048576: NARROWER than '..Said'. Prove '..Said' where nothing that the law and all that it calls make is longer than what came in: it says more and counts as full. Else prove '..UptoSaid'. A law counts once. -/
mutual
def uptoBulk {H : Type} : DataW H → Nat
  | .lit (.string bytes) => bytes.length + 1
  | .lit _ => 1
  | .nil => 1
  | .ptr d => uptoBulk d + 1
  | .slice elems spare => uptoBulkAll elems + uptoBulkAll spare + 1
  | .agg parts => uptoBulkAll parts + 1
  | .iface _ d => uptoBulk d + 1
  | .map entries => uptoBulkEntries entries + 1
  | .held _ => 1
def uptoBulkAll {H : Type} : List (DataW H) → Nat
  | [] => 0
  | d :: r => uptoBulk d + uptoBulkAll r
def uptoBulkEntries {H : Type} : List (Lit × DataW H) → Nat
  | [] => 0
  | x :: r => uptoBulkEntry x + uptoBulkEntries r
def uptoBulkEntry {H : Type} : Lit × DataW H → Nat
  | (.string bytes, d) => bytes.length + uptoBulk d + 1
  | (_, d) => uptoBulk d + 1
 end
def uptoSmall : (H : Type) → List (DataW H) → Bool := fun _ ds => decide (uptoBulkAll ds ≤ 1048576)
def OpenSpec.upto (s : _root_.Go.ChangeSpec) : _root_.Go.OpenSpec := { _root_.Go.OpenSpec.ofChange s with cond := some uptoSmall }

/-- 'affidavitlaw08.SolveRight', WHERE WHAT IT READS IS OF BULK AT MOST 1048576: true; the input reads as it did. -/
def solveRightUptoRow : OpenClaim := { program := "ytfpmcajndgkgeaa", sum := "10199c4417876ecf2ce88dd9356eb5c6054f9d7f225814b8d6e0c8a77afb6da9", func := "affidavit/affidavitlaw08.SolveRight", spec := "solveRight", inPlace := ["math/bits.Add64"], unfollowed := true, recurses := true, named := ["math/bits.divideError", "math/bits.overflowError"], apart := false, narrowed := true }
def SolveRightUptoSaid : Prop := solveRightUptoRow.holds Try.pinned (OpenSpec.upto solveRightSpec)

/-- 'affidavitlaw09.KrylovRight', WHERE WHAT IT READS IS OF BULK AT MOST 1048576: true; the input reads as it did. -/
def krylovRightUptoRow : OpenClaim := { program := "ytfpmcajndgkgeaa", sum := "10199c4417876ecf2ce88dd9356eb5c6054f9d7f225814b8d6e0c8a77afb6da9", func := "affidavit/affidavitlaw09.KrylovRight", spec := "krylovRight", inPlace := ["math/bits.Add64"], unfollowed := true, recurses := true, named := ["math/bits.divideError", "math/bits.overflowError"], apart := false, narrowed := true }
def KrylovRightUptoSaid : Prop := krylovRightUptoRow.holds Try.pinned (OpenSpec.upto krylovRightSpec)

/-- 'affidavitlaw09.KrylovLeast', WHERE WHAT IT READS IS OF BULK AT MOST 1048576: true; the input reads as it did. -/
def krylovLeastUptoRow : OpenClaim := { program := "ytfpmcajndgkgeaa", sum := "10199c4417876ecf2ce88dd9356eb5c6054f9d7f225814b8d6e0c8a77afb6da9", func := "affidavit/affidavitlaw09.KrylovLeast", spec := "krylovLeast", inPlace := ["math/bits.Add64"], unfollowed := true, recurses := true, named := ["math/bits.divideError", "math/bits.overflowError"], apart := false, narrowed := true }
def KrylovLeastUptoSaid : Prop := krylovLeastUptoRow.holds Try.pinned (OpenSpec.upto krylovLeastSpec)

/-- 'affidavitlaw09.KrylovCompanion', WHERE WHAT IT READS IS OF BULK AT MOST 1048576: true; the input reads as it did. -/
def krylovCompanionUptoRow : OpenClaim := { program := "ytfpmcajndgkgeaa", sum := "10199c4417876ecf2ce88dd9356eb5c6054f9d7f225814b8d6e0c8a77afb6da9", func := "affidavit/affidavitlaw09.KrylovCompanion", spec := "krylovCompanion", inPlace := ["math/bits.Add64"], unfollowed := true, recurses := true, named := ["math/bits.divideError", "math/bits.overflowError"], apart := false, narrowed := true }
def KrylovCompanionUptoSaid : Prop := krylovCompanionUptoRow.holds Try.pinned (OpenSpec.upto krylovCompanionSpec)

/-- 'affidavitlaw09.KrylovSeries', WHERE WHAT IT READS IS OF BULK AT MOST 1048576: true; the input reads as it did. -/
def krylovSeriesUptoRow : OpenClaim := { program := "ytfpmcajndgkgeaa", sum := "10199c4417876ecf2ce88dd9356eb5c6054f9d7f225814b8d6e0c8a77afb6da9", func := "affidavit/affidavitlaw09.KrylovSeries", spec := "krylovSeries", inPlace := ["math/bits.Add64"], unfollowed := true, recurses := true, named := ["math/bits.divideError", "math/bits.overflowError"], apart := false, narrowed := true }
def KrylovSeriesUptoSaid : Prop := krylovSeriesUptoRow.holds Try.pinned (OpenSpec.upto krylovSeriesSpec)

/-- 'affidavitlaw09.KrylovRing', WHERE WHAT IT READS IS OF BULK AT MOST 1048576: true; the input reads as it did. -/
def krylovRingUptoRow : OpenClaim := { program := "ytfpmcajndgkgeaa", sum := "10199c4417876ecf2ce88dd9356eb5c6054f9d7f225814b8d6e0c8a77afb6da9", func := "affidavit/affidavitlaw09.KrylovRing", spec := "krylovRing", inPlace := ["math/bits.Add64"], unfollowed := true, recurses := true, named := ["math/bits.divideError", "math/bits.overflowError"], apart := false, narrowed := true }
def KrylovRingUptoSaid : Prop := krylovRingUptoRow.holds Try.pinned (OpenSpec.upto krylovRingSpec)

end Rows
end Go.Proofs.Ytfpmcajndgkgeaa
