/-
  No cell of these rows narrows 'for every input' (looked for: loops, veiled, ifaces, maps, wideKeys, modest, calm, conditions, laid).
  DERIVED. THE GIVEN ROWS OF THIS SEAT. 5 by the template 'for every input the law returns true; each argument reads behind the call as it read before'; 0 by the template 'total and deterministic' (their statements: YtlociefncogjeaaTotals.lean).
  GIVEN WITH THE SEED: the statements are not yours to turn. If you find one false, say at which input.
  Laid BY PROGRAM, IN A SANDBOX (cutbox-rows.mjs): the forced cells as the released guide's own fill.sh prints them over the translation 20956547390868df… (all of the seat's roots in one cut). By AI agents, Wed Nov 11 2026. No macro, syntax, notation, axiom, sorry.
-/
import Derived.Test.YtlociefncogjeaaChecked
import GoSem.Claim
import GoSem.ClaimJoined
import GoSem.ClaimMapViews
import Derived.JoinedTies
import Derived.KernelRfl
namespace Go.Proofs.Ytlociefncogjeaa
/- THE CELL 'sum', in the pinned program and in every row, IS THE sha256 OF THE DUMP (.gsa) THAT YtlociefncogjeaaProg.lean LOADS. Nothing in Lean hashes anything: it is a label: what it is worth is what the hold of that sum in a sandbox is worth. -/
noncomputable def Try.pinned : Pinned := { name := "ytlociefncogjeaa", sum := "20956547390868dfda910ad3defe90558f839acaa77713099c9631cd7eff38e6", checked := Try.checked }
namespace Rows
def none {H : Type} : Left H := { results := [], args := [] }

/-- 'affidavitlaw05.MatrixRight': WHATEVER THE INPUT: true; the input reads as it did. -/
def matrixRightSpec : ChangeSpec := { name := "matrixRight", fn := fun _ => fun
  | [d1, d2, d3, d4, d5, d6] => { results := [.lit (.bool true)], args := [d1, d2, d3, d4, d5, d6] }
  | _ => none }
def matrixRightRow : OpenClaim := { program := "ytlociefncogjeaa", sum := "20956547390868dfda910ad3defe90558f839acaa77713099c9631cd7eff38e6", func := "affidavit/affidavitlaw05.MatrixRight", spec := "matrixRight", inPlace := ["math/bits.Add64"], recurses := true, named := ["math/bits.divideError", "math/bits.overflowError"], apart := false }
def MatrixRightSaid : Prop := matrixRightRow.holds Try.pinned (OpenSpec.ofChange matrixRightSpec)

/-- ITS FALSE NEIGHBOUR: 'it returns false'. Refute it at one input. -/
def matrixRightWrong : ChangeSpec := { name := "matrixRight", fn := fun _ => fun
  | [d1, d2, d3, d4, d5, d6] => { results := [.lit (.bool false)], args := [d1, d2, d3, d4, d5, d6] }
  | _ => none }
def MatrixRightWrongFalsely : Prop := matrixRightRow.holds Try.pinned (OpenSpec.ofChange matrixRightWrong)

/-- 'affidavitlaw05.MatrixPicks': WHATEVER THE INPUT: true; the input reads as it did. -/
def matrixPicksSpec : ChangeSpec := { name := "matrixPicks", fn := fun _ => fun
  | [d1, d2, d3, d4] => { results := [.lit (.bool true)], args := [d1, d2, d3, d4] }
  | _ => none }
def matrixPicksRow : OpenClaim := { program := "ytlociefncogjeaa", sum := "20956547390868dfda910ad3defe90558f839acaa77713099c9631cd7eff38e6", func := "affidavit/affidavitlaw05.MatrixPicks", spec := "matrixPicks", inPlace := ["math/bits.Add64"], named := ["math/bits.divideError", "math/bits.overflowError"], apart := false }
def MatrixPicksSaid : Prop := matrixPicksRow.holds Try.pinned (OpenSpec.ofChange matrixPicksSpec)

/-- ITS FALSE NEIGHBOUR: 'it returns false'. Refute it at one input. -/
def matrixPicksWrong : ChangeSpec := { name := "matrixPicks", fn := fun _ => fun
  | [d1, d2, d3, d4] => { results := [.lit (.bool false)], args := [d1, d2, d3, d4] }
  | _ => none }
def MatrixPicksWrongFalsely : Prop := matrixPicksRow.holds Try.pinned (OpenSpec.ofChange matrixPicksWrong)

/-- 'affidavitlaw05.MatrixApplies': WHATEVER THE INPUT: true; the input reads as it did. -/
def matrixAppliesSpec : ChangeSpec := { name := "matrixApplies", fn := fun _ => fun
  | [d1, d2, d3, d4, d5] => { results := [.lit (.bool true)], args := [d1, d2, d3, d4, d5] }
  | _ => none }
def matrixAppliesRow : OpenClaim := { program := "ytlociefncogjeaa", sum := "20956547390868dfda910ad3defe90558f839acaa77713099c9631cd7eff38e6", func := "affidavit/affidavitlaw05.MatrixApplies", spec := "matrixApplies", inPlace := ["math/bits.Add64"], named := ["math/bits.divideError", "math/bits.overflowError"], apart := false }
def MatrixAppliesSaid : Prop := matrixAppliesRow.holds Try.pinned (OpenSpec.ofChange matrixAppliesSpec)

/-- ITS FALSE NEIGHBOUR: 'it returns false'. Refute it at one input. -/
def matrixAppliesWrong : ChangeSpec := { name := "matrixApplies", fn := fun _ => fun
  | [d1, d2, d3, d4, d5] => { results := [.lit (.bool false)], args := [d1, d2, d3, d4, d5] }
  | _ => none }
def MatrixAppliesWrongFalsely : Prop := matrixAppliesRow.holds Try.pinned (OpenSpec.ofChange matrixAppliesWrong)

/-- 'affidavitlaw05.MatrixThin': WHATEVER THE INPUT: true; the input reads as it did. -/
def matrixThinSpec : ChangeSpec := { name := "matrixThin", fn := fun _ => fun
  | [d1, d2, d3] => { results := [.lit (.bool true)], args := [d1, d2, d3] }
  | _ => none }
def matrixThinRow : OpenClaim := { program := "ytlociefncogjeaa", sum := "20956547390868dfda910ad3defe90558f839acaa77713099c9631cd7eff38e6", func := "affidavit/affidavitlaw05.MatrixThin", spec := "matrixThin", inPlace := ["math/bits.Add64"], named := ["math/bits.divideError", "math/bits.overflowError"], apart := false }
def MatrixThinSaid : Prop := matrixThinRow.holds Try.pinned (OpenSpec.ofChange matrixThinSpec)

/-- ITS FALSE NEIGHBOUR: 'it returns false'. Refute it at one input. -/
def matrixThinWrong : ChangeSpec := { name := "matrixThin", fn := fun _ => fun
  | [d1, d2, d3] => { results := [.lit (.bool false)], args := [d1, d2, d3] }
  | _ => none }
def MatrixThinWrongFalsely : Prop := matrixThinRow.holds Try.pinned (OpenSpec.ofChange matrixThinWrong)

/-- 'affidavitlaw05.MatrixPicked': WHATEVER THE INPUT: true; the input reads as it did. -/
def matrixPickedSpec : ChangeSpec := { name := "matrixPicked", fn := fun _ => fun
  | [d1, d2, d3, d4, d5, d6] => { results := [.lit (.bool true)], args := [d1, d2, d3, d4, d5, d6] }
  | _ => none }
def matrixPickedRow : OpenClaim := { program := "ytlociefncogjeaa", sum := "20956547390868dfda910ad3defe90558f839acaa77713099c9631cd7eff38e6", func := "affidavit/affidavitlaw05.MatrixPicked", spec := "matrixPicked", inPlace := ["math/bits.Add64"], named := ["math/bits.divideError", "math/bits.overflowError"], apart := false }
def MatrixPickedSaid : Prop := matrixPickedRow.holds Try.pinned (OpenSpec.ofChange matrixPickedSpec)

/-- ITS FALSE NEIGHBOUR: 'it returns false'. Refute it at one input. -/
def matrixPickedWrong : ChangeSpec := { name := "matrixPicked", fn := fun _ => fun
  | [d1, d2, d3, d4, d5, d6] => { results := [.lit (.bool false)], args := [d1, d2, d3, d4, d5, d6] }
  | _ => none }
def MatrixPickedWrongFalsely : Prop := matrixPickedRow.holds Try.pinned (OpenSpec.ofChange matrixPickedWrong)

/- THE SECOND FORM. 'bulk': how many values and letters a reading holds, each counted each time it is reached (what is shared counts as often as it is met; a slice's spare places count too). A statement '..UptoSaid' is the law's where the arguments, and the package variables that the reading takes, are together of bulk at most 1048576: NARROWER than '..Said'. Prove '..Said' where nothing that the law and all that it calls make is longer than what came in: it says more and counts as full. Else prove '..UptoSaid'. A law counts once. -/
mutual
def uptoBulk {H : Type} : DataW H → Nat
  | .lit (.string bytes) => bytes.length + 1
  | .lit _ => 1
  | .nil => 1
  | .ptr d => uptoBulk d + 1
  | .slice elems spare => uptoBulkAll elems + uptoBulkAll spare + 1
  | .agg parts => uptoBulkAll parts + 1
  | .iface _ d => uptoBulk d + 1
  | .map entries => uptoBulkEntries entries + 1
  | .held _ => 1
def uptoBulkAll {H : Type} : List (DataW H) → Nat
  | [] => 0
  | d :: r => uptoBulk d + uptoBulkAll r
def uptoBulkEntries {H : Type} : List (Lit × DataW H) → Nat
  | [] => 0
  | x :: r => uptoBulkEntry x + uptoBulkEntries r
def uptoBulkEntry {H : Type} : Lit × DataW H → Nat
  | (.string bytes, d) => bytes.length + uptoBulk d + 1
  | (_, d) => uptoBulk d + 1
 end
def uptoSmall : (H : Type) → List (DataW H) → Bool := fun _ ds => decide (uptoBulkAll ds ≤ 1048576)
def OpenSpec.upto (s : _root_.Go.ChangeSpec) : _root_.Go.OpenSpec := { _root_.Go.OpenSpec.ofChange s with cond := some uptoSmall }

/-- 'affidavitlaw05.MatrixRight', WHERE WHAT IT READS IS OF BULK AT MOST 1048576: true; the input reads as it did. -/
def matrixRightUptoRow : OpenClaim := { program := "ytlociefncogjeaa", sum := "20956547390868dfda910ad3defe90558f839acaa77713099c9631cd7eff38e6", func := "affidavit/affidavitlaw05.MatrixRight", spec := "matrixRight", inPlace := ["math/bits.Add64"], recurses := true, named := ["math/bits.divideError", "math/bits.overflowError"], apart := false, narrowed := true }
def MatrixRightUptoSaid : Prop := matrixRightUptoRow.holds Try.pinned (OpenSpec.upto matrixRightSpec)

/-- 'affidavitlaw05.MatrixPicks', WHERE WHAT IT READS IS OF BULK AT MOST 1048576: true; the input reads as it did. -/
def matrixPicksUptoRow : OpenClaim := { program := "ytlociefncogjeaa", sum := "20956547390868dfda910ad3defe90558f839acaa77713099c9631cd7eff38e6", func := "affidavit/affidavitlaw05.MatrixPicks", spec := "matrixPicks", inPlace := ["math/bits.Add64"], named := ["math/bits.divideError", "math/bits.overflowError"], apart := false, narrowed := true }
def MatrixPicksUptoSaid : Prop := matrixPicksUptoRow.holds Try.pinned (OpenSpec.upto matrixPicksSpec)

/-- 'affidavitlaw05.MatrixApplies', WHERE WHAT IT READS IS OF BULK AT MOST 1048576: true; the input reads as it did. -/
def matrixAppliesUptoRow : OpenClaim := { program := "ytlociefncogjeaa", sum := "20956547390868dfda910ad3defe90558f839acaa77713099c9631cd7eff38e6", func := "affidavit/affidavitlaw05.MatrixApplies", spec := "matrixApplies", inPlace := ["math/bits.Add64"], named := ["math/bits.divideError", "math/bits.overflowError"], apart := false, narrowed := true }
def MatrixAppliesUptoSaid : Prop := matrixAppliesUptoRow.holds Try.pinned (OpenSpec.upto matrixAppliesSpec)

/-- 'affidavitlaw05.MatrixThin', WHERE WHAT IT READS IS OF BULK AT MOST 1048576: true; the input reads as it did. -/
def matrixThinUptoRow : OpenClaim := { program := "ytlociefncogjeaa", sum := "20956547390868dfda910ad3defe90558f839acaa77713099c9631cd7eff38e6", func := "affidavit/affidavitlaw05.MatrixThin", spec := "matrixThin", inPlace := ["math/bits.Add64"], named := ["math/bits.divideError", "math/bits.overflowError"], apart := false, narrowed := true }
def MatrixThinUptoSaid : Prop := matrixThinUptoRow.holds Try.pinned (OpenSpec.upto matrixThinSpec)

/-- 'affidavitlaw05.MatrixPicked', WHERE WHAT IT READS IS OF BULK AT MOST 1048576: true; the input reads as it did. -/
def matrixPickedUptoRow : OpenClaim := { program := "ytlociefncogjeaa", sum := "20956547390868dfda910ad3defe90558f839acaa77713099c9631cd7eff38e6", func := "affidavit/affidavitlaw05.MatrixPicked", spec := "matrixPicked", inPlace := ["math/bits.Add64"], named := ["math/bits.divideError", "math/bits.overflowError"], apart := false, narrowed := true }
def MatrixPickedUptoSaid : Prop := matrixPickedUptoRow.holds Try.pinned (OpenSpec.upto matrixPickedSpec)

end Rows
end Go.Proofs.Ytlociefncogjeaa
