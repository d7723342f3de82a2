/-
  No cell of these rows narrows 'for every input' (looked for: loops, veiled, ifaces, maps, wideKeys, modest, calm, conditions, laid).
  DERIVED. THE GIVEN ROWS OF THIS SEAT. 5 by the template 'for every input the law returns true; each argument reads behind the call as it read before'; 0 by the template 'total and deterministic' (their statements: YtjdbkbbhjiemdaaTotals.lean).
  GIVEN WITH THE SEED: the statements are not yours to turn. If you find one false, say at which input.
  Laid BY PROGRAM, IN A SANDBOX (cutbox-rows.mjs): the forced cells as the released guide's own fill.sh prints them over the translation 37220d9c5177c103… (all of the seat's roots in one cut). By AI agents, Wed Nov 11 2026. No macro, syntax, notation, axiom, sorry.
-/
import Derived.Test.YtjdbkbbhjiemdaaChecked
import GoSem.Claim
import GoSem.ClaimJoined
import GoSem.ClaimMapViews
import Derived.JoinedTies
import Derived.KernelRfl
namespace Go.Proofs.Ytjdbkbbhjiemdaa
/- THE CELL 'sum', in the pinned program and in every row, IS THE sha256 OF THE DUMP (.gsa) THAT YtjdbkbbhjiemdaaProg.lean LOADS. Nothing in Lean hashes anything: it is a label: what it is worth is what the hold of that sum in a sandbox is worth. -/
noncomputable def Try.pinned : Pinned := { name := "ytjdbkbbhjiemdaa", sum := "37220d9c5177c10321a9ba4e8caf8f66bad7140acbf262c573e8922c9c045089", checked := Try.checked }
namespace Rows
def none {H : Type} : Left H := { results := [], args := [] }

/-- 'affidavitlaw08.SolveRight': WHATEVER THE INPUT: true; the input reads as it did. -/
def solveRightSpec : ChangeSpec := { name := "solveRight", fn := fun _ => fun
  | [d1, d2, d3, d4] => { results := [.lit (.bool true)], args := [d1, d2, d3, d4] }
  | _ => none }
def solveRightRow : OpenClaim := { program := "ytjdbkbbhjiemdaa", sum := "37220d9c5177c10321a9ba4e8caf8f66bad7140acbf262c573e8922c9c045089", func := "affidavit/affidavitlaw08.SolveRight", spec := "solveRight", inPlace := ["math/bits.Add64"], unfollowed := true, recurses := true, named := ["math/bits.divideError", "math/bits.overflowError"], apart := false }
def SolveRightSaid : Prop := solveRightRow.holds Try.pinned (OpenSpec.ofChange solveRightSpec)

/-- ITS FALSE NEIGHBOUR: 'it returns false'. Refute it at one input. -/
def solveRightWrong : ChangeSpec := { name := "solveRight", fn := fun _ => fun
  | [d1, d2, d3, d4] => { results := [.lit (.bool false)], args := [d1, d2, d3, d4] }
  | _ => none }
def SolveRightWrongFalsely : Prop := solveRightRow.holds Try.pinned (OpenSpec.ofChange solveRightWrong)

/-- 'affidavitlaw08.SolveOr': WHATEVER THE INPUT: true; the input reads as it did. -/
def solveOrSpec : ChangeSpec := { name := "solveOr", fn := fun _ => fun
  | [d1, d2, d3, d4] => { results := [.lit (.bool true)], args := [d1, d2, d3, d4] }
  | _ => none }
def solveOrRow : OpenClaim := { program := "ytjdbkbbhjiemdaa", sum := "37220d9c5177c10321a9ba4e8caf8f66bad7140acbf262c573e8922c9c045089", func := "affidavit/affidavitlaw08.SolveOr", spec := "solveOr", inPlace := ["math/bits.Add64"], unfollowed := true, recurses := true, named := ["math/bits.divideError", "math/bits.overflowError"], apart := false }
def SolveOrSaid : Prop := solveOrRow.holds Try.pinned (OpenSpec.ofChange solveOrSpec)

/-- ITS FALSE NEIGHBOUR: 'it returns false'. Refute it at one input. -/
def solveOrWrong : ChangeSpec := { name := "solveOr", fn := fun _ => fun
  | [d1, d2, d3, d4] => { results := [.lit (.bool false)], args := [d1, d2, d3, d4] }
  | _ => none }
def SolveOrWrongFalsely : Prop := solveOrRow.holds Try.pinned (OpenSpec.ofChange solveOrWrong)

/-- 'affidavitlaw08.SolveKernels': WHATEVER THE INPUT: true; the input reads as it did. -/
def solveKernelsSpec : ChangeSpec := { name := "solveKernels", fn := fun _ => fun
  | [d1, d2] => { results := [.lit (.bool true)], args := [d1, d2] }
  | _ => none }
def solveKernelsRow : OpenClaim := { program := "ytjdbkbbhjiemdaa", sum := "37220d9c5177c10321a9ba4e8caf8f66bad7140acbf262c573e8922c9c045089", func := "affidavit/affidavitlaw08.SolveKernels", spec := "solveKernels", inPlace := ["math/bits.Add64"], unfollowed := true, recurses := true, named := ["math/bits.divideError", "math/bits.overflowError"], apart := false }
def SolveKernelsSaid : Prop := solveKernelsRow.holds Try.pinned (OpenSpec.ofChange solveKernelsSpec)

/-- ITS FALSE NEIGHBOUR: 'it returns false'. Refute it at one input. -/
def solveKernelsWrong : ChangeSpec := { name := "solveKernels", fn := fun _ => fun
  | [d1, d2] => { results := [.lit (.bool false)], args := [d1, d2] }
  | _ => none }
def SolveKernelsWrongFalsely : Prop := solveKernelsRow.holds Try.pinned (OpenSpec.ofChange solveKernelsWrong)

/-- 'affidavitlaw08.SolveInverse': WHATEVER THE INPUT: true; the input reads as it did. -/
def solveInverseSpec : ChangeSpec := { name := "solveInverse", fn := fun _ => fun
  | [d1, d2, d3] => { results := [.lit (.bool true)], args := [d1, d2, d3] }
  | _ => none }
def solveInverseRow : OpenClaim := { program := "ytjdbkbbhjiemdaa", sum := "37220d9c5177c10321a9ba4e8caf8f66bad7140acbf262c573e8922c9c045089", func := "affidavit/affidavitlaw08.SolveInverse", spec := "solveInverse", inPlace := ["math/bits.Add64"], unfollowed := true, recurses := true, named := ["math/bits.divideError", "math/bits.overflowError"], apart := false }
def SolveInverseSaid : Prop := solveInverseRow.holds Try.pinned (OpenSpec.ofChange solveInverseSpec)

/-- ITS FALSE NEIGHBOUR: 'it returns false'. Refute it at one input. -/
def solveInverseWrong : ChangeSpec := { name := "solveInverse", fn := fun _ => fun
  | [d1, d2, d3] => { results := [.lit (.bool false)], args := [d1, d2, d3] }
  | _ => none }
def SolveInverseWrongFalsely : Prop := solveInverseRow.holds Try.pinned (OpenSpec.ofChange solveInverseWrong)

/-- 'affidavitlaw08.SolveMore': WHATEVER THE INPUT: true; the input reads as it did. -/
def solveMoreSpec : ChangeSpec := { name := "solveMore", fn := fun _ => fun
  | [d1, d2, d3, d4] => { results := [.lit (.bool true)], args := [d1, d2, d3, d4] }
  | _ => none }
def solveMoreRow : OpenClaim := { program := "ytjdbkbbhjiemdaa", sum := "37220d9c5177c10321a9ba4e8caf8f66bad7140acbf262c573e8922c9c045089", func := "affidavit/affidavitlaw08.SolveMore", spec := "solveMore", inPlace := ["math/bits.Add64"], unfollowed := true, recurses := true, named := ["math/bits.divideError", "math/bits.overflowError"], apart := false }
def SolveMoreSaid : Prop := solveMoreRow.holds Try.pinned (OpenSpec.ofChange solveMoreSpec)

/-- ITS FALSE NEIGHBOUR: 'it returns false'. Refute it at one input. -/
def solveMoreWrong : ChangeSpec := { name := "solveMore", fn := fun _ => fun
  | [d1, d2, d3, d4] => { results := [.lit (.bool false)], args := [d1, d2, d3, d4] }
  | _ => none }
def SolveMoreWrongFalsely : Prop := solveMoreRow.holds Try.pinned (OpenSpec.ofChange solveMoreWrong)

/- THE SECOND FORM. 'bulk': how many values and letters a reading holds, each counted each time it is reached (what is shared counts as often as it is met; a slice's spare places count too). A statement '..UptoSaid' is the law's where the arguments, and the package variables that the reading takes, are together of bulk at most 1048576: NARROWER than '..Said'. Prove '..Said' where nothing that the law and all that it calls make is longer than what came in: it says more and counts as full. Else prove '..UptoSaid'. A law counts once. -/
mutual
def uptoBulk {H : Type} : DataW H → Nat
  | .lit (.string bytes) => bytes.length + 1
  | .lit _ => 1
  | .nil => 1
  | .ptr d => uptoBulk d + 1
  | .slice elems spare => uptoBulkAll elems + uptoBulkAll spare + 1
  | .agg parts => uptoBulkAll parts + 1
  | .iface _ d => uptoBulk d + 1
  | .map entries => uptoBulkEntries entries + 1
  | .held _ => 1
def uptoBulkAll {H : Type} : List (DataW H) → Nat
  | [] => 0
  | d :: r => uptoBulk d + uptoBulkAll r
def uptoBulkEntries {H : Type} : List (Lit × DataW H) → Nat
  | [] => 0
  | x :: r => uptoBulkEntry x + uptoBulkEntries r
def uptoBulkEntry {H : Type} : Lit × DataW H → Nat
  | (.string bytes, d) => bytes.length + uptoBulk d + 1
  | (_, d) => uptoBulk d + 1
 end
def uptoSmall : (H : Type) → List (DataW H) → Bool := fun _ ds => decide (uptoBulkAll ds ≤ 1048576)
def OpenSpec.upto (s : _root_.Go.ChangeSpec) : _root_.Go.OpenSpec := { _root_.Go.OpenSpec.ofChange s with cond := some uptoSmall }

/-- 'affidavitlaw08.SolveRight', WHERE WHAT IT READS IS OF BULK AT MOST 1048576: true; the input reads as it did. -/
def solveRightUptoRow : OpenClaim := { program := "ytjdbkbbhjiemdaa", sum := "37220d9c5177c10321a9ba4e8caf8f66bad7140acbf262c573e8922c9c045089", func := "affidavit/affidavitlaw08.SolveRight", spec := "solveRight", inPlace := ["math/bits.Add64"], unfollowed := true, recurses := true, named := ["math/bits.divideError", "math/bits.overflowError"], apart := false, narrowed := true }
def SolveRightUptoSaid : Prop := solveRightUptoRow.holds Try.pinned (OpenSpec.upto solveRightSpec)

/-- 'affidavitlaw08.SolveOr', WHERE WHAT IT READS IS OF BULK AT MOST 1048576: true; the input reads as it did. -/
def solveOrUptoRow : OpenClaim := { program := "ytjdbkbbhjiemdaa", sum := "37220d9c5177c10321a9ba4e8caf8f66bad7140acbf262c573e8922c9c045089", func := "affidavit/affidavitlaw08.SolveOr", spec := "solveOr", inPlace := ["math/bits.Add64"], unfollowed := true, recurses := true, named := ["math/bits.divideError", "math/bits.overflowError"], apart := false, narrowed := true }
def SolveOrUptoSaid : Prop := solveOrUptoRow.holds Try.pinned (OpenSpec.upto solveOrSpec)

/-- 'affidavitlaw08.SolveKernels', WHERE WHAT IT READS IS OF BULK AT MOST 1048576: true; the input reads as it did. -/
def solveKernelsUptoRow : OpenClaim := { program := "ytjdbkbbhjiemdaa", sum := "37220d9c5177c10321a9ba4e8caf8f66bad7140acbf262c573e8922c9c045089", func := "affidavit/affidavitlaw08.SolveKernels", spec := "solveKernels", inPlace := ["math/bits.Add64"], unfollowed := true, recurses := true, named := ["math/bits.divideError", "math/bits.overflowError"], apart := false, narrowed := true }
def SolveKernelsUptoSaid : Prop := solveKernelsUptoRow.holds Try.pinned (OpenSpec.upto solveKernelsSpec)

/-- 'affidavitlaw08.SolveInverse', WHERE WHAT IT READS IS OF BULK AT MOST 1048576: true; the input reads as it did. -/
def solveInverseUptoRow : OpenClaim := { program := "ytjdbkbbhjiemdaa", sum := "37220d9c5177c10321a9ba4e8caf8f66bad7140acbf262c573e8922c9c045089", func := "affidavit/affidavitlaw08.SolveInverse", spec := "solveInverse", inPlace := ["math/bits.Add64"], unfollowed := true, recurses := true, named := ["math/bits.divideError", "math/bits.overflowError"], apart := false, narrowed := true }
def SolveInverseUptoSaid : Prop := solveInverseUptoRow.holds Try.pinned (OpenSpec.upto solveInverseSpec)

/-- 'affidavitlaw08.SolveMore', WHERE WHAT IT READS IS OF BULK AT MOST 1048576: true; the input reads as it did. -/
def solveMoreUptoRow : OpenClaim := { program := "ytjdbkbbhjiemdaa", sum := "37220d9c5177c10321a9ba4e8caf8f66bad7140acbf262c573e8922c9c045089", func := "affidavit/affidavitlaw08.SolveMore", spec := "solveMore", inPlace := ["math/bits.Add64"], unfollowed := true, recurses := true, named := ["math/bits.divideError", "math/bits.overflowError"], apart := false, narrowed := true }
def SolveMoreUptoSaid : Prop := solveMoreUptoRow.holds Try.pinned (OpenSpec.upto solveMoreSpec)

end Rows
end Go.Proofs.Ytjdbkbbhjiemdaa
