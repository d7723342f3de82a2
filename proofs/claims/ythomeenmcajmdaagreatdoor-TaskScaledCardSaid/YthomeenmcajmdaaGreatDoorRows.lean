/-
  NARROWER THAN 'FOR EVERY INPUT', by the rows' own cells (each row's printed sentence says how): TaskRight: laid · TaskPlain: laid · TaskTrue: laid · TaskScaled: laid.
  DERIVED. THE GIVEN ROWS OF THIS SEAT. 4 by the template 'for every input the law returns true; each argument reads behind the call as it read before'; 0 by the template 'total and deterministic' (their statements: YthomeenmcajmdaaGreatDoorTotals.lean).
  GIVEN WITH THE SEED: the statements are not yours to turn. If you find one false, say at which input.
  Laid BY PROGRAM, IN A SANDBOX (cutbox-rows.mjs): the forced cells as the released guide's own fill.sh prints them over the translation 4fdbe08cd9870f6a… (all of the seat's roots in one cut). By AI agents, Wed Nov 11 2026. No macro, syntax, notation, axiom, sorry.
-/
import Derived.Test.YthomeenmcajmdaaGreatDoorChecked
import GoSem.Claim
import GoSem.ClaimJoined
import GoSem.ClaimMapViews
import Derived.JoinedTies
import Derived.KernelRfl
namespace Go.Proofs.YthomeenmcajmdaaGreatDoor
/- THE CELL 'sum', in the pinned program and in every row, IS THE sha256 OF THE DUMP (.gsa) THAT YthomeenmcajmdaaGreatDoorProg.lean LOADS. Nothing in Lean hashes anything: it is a label: what it is worth is what the hold of that sum in a sandbox is worth. -/
noncomputable def Tryz.pinned : Pinned := { name := "ythomeenmcajmdaagreatdoor", sum := "4fdbe08cd9870f6afa5cab850937dc817b27c4c4f2df6655a92ed3392280ca4c", checked := Tryz.checked }
namespace Rows
def none {H : Type} : Left H := { results := [], args := [] }

/- WHAT THE LISTED PACKAGE-LEVEL VARIABLES READ AS WHEN THE CALL BEGINS. Each datum BY PROGRAM (the guide's laid-datum.mjs) off the statement by which the dump's own 'gosem.cut.vars' lays the variable. In a bare row this is a premise. The card (YthomeenmcajmdaaGreatDoorCards.lean) ties it to the program's text. -/
def laid_math_bits_deBruijn64tab {H : Type} : DataW H := .agg [.lit (.int .u8 0), .lit (.int .u8 1), .lit (.int .u8 56), .lit (.int .u8 2), .lit (.int .u8 57), .lit (.int .u8 49), .lit (.int .u8 28), .lit (.int .u8 3), .lit (.int .u8 61), .lit (.int .u8 58), .lit (.int .u8 42), .lit (.int .u8 50), .lit (.int .u8 38), .lit (.int .u8 29), .lit (.int .u8 17), .lit (.int .u8 4), .lit (.int .u8 62), .lit (.int .u8 47), .lit (.int .u8 59), .lit (.int .u8 36), .lit (.int .u8 45), .lit (.int .u8 43), .lit (.int .u8 51), .lit (.int .u8 22), .lit (.int .u8 53), .lit (.int .u8 39), .lit (.int .u8 33), .lit (.int .u8 30), .lit (.int .u8 24), .lit (.int .u8 18), .lit (.int .u8 12), .lit (.int .u8 5), .lit (.int .u8 63), .lit (.int .u8 55), .lit (.int .u8 48), .lit (.int .u8 27), .lit (.int .u8 60), .lit (.int .u8 41), .lit (.int .u8 37), .lit (.int .u8 16), .lit (.int .u8 46), .lit (.int .u8 35), .lit (.int .u8 44), .lit (.int .u8 21), .lit (.int .u8 52), .lit (.int .u8 32), .lit (.int .u8 23), .lit (.int .u8 11), .lit (.int .u8 54), .lit (.int .u8 26), .lit (.int .u8 40), .lit (.int .u8 15), .lit (.int .u8 34), .lit (.int .u8 20), .lit (.int .u8 31), .lit (.int .u8 10), .lit (.int .u8 25), .lit (.int .u8 14), .lit (.int .u8 19), .lit (.int .u8 9), .lit (.int .u8 13), .lit (.int .u8 8), .lit (.int .u8 7), .lit (.int .u8 6)]

/-- 'affidavitlaw16.TaskRight': WHATEVER THE INPUT: true; the input reads as it did. -/
def taskRightSpec : ChangeSpec := { name := "taskRight", fn := fun _ => fun
  | [d] => { results := [.lit (.bool true)], args := [d] }
  | _ => none }
def taskRightRow : OpenClaim := { program := "ythomeenmcajmdaagreatdoor", sum := "4fdbe08cd9870f6afa5cab850937dc817b27c4c4f2df6655a92ed3392280ca4c", func := "affidavit/affidavitlaw16.TaskRight", spec := "taskRight", inPlace := ["math/bits.Add64"], unfollowed := true, recurses := true, named := ["math/bits.deBruijn64tab", "math/bits.divideError", "math/bits.overflowError"], apart := false, laid := [("math/bits.deBruijn64tab", laid_math_bits_deBruijn64tab)] }
def TaskRightSaid : Prop := taskRightRow.holds Tryz.pinned (OpenSpec.ofChange taskRightSpec)

/-- ITS FALSE NEIGHBOUR: 'it returns false'. Refute it at one input. -/
def taskRightWrong : ChangeSpec := { name := "taskRight", fn := fun _ => fun
  | [d] => { results := [.lit (.bool false)], args := [d] }
  | _ => none }
def TaskRightWrongFalsely : Prop := taskRightRow.holds Tryz.pinned (OpenSpec.ofChange taskRightWrong)

/-- 'affidavitlaw16.TaskPlain': WHATEVER THE INPUT: true; the input reads as it did. -/
def taskPlainSpec : ChangeSpec := { name := "taskPlain", fn := fun _ => fun
  | [d1, d2, d3] => { results := [.lit (.bool true)], args := [d1, d2, d3] }
  | _ => none }
def taskPlainRow : OpenClaim := { program := "ythomeenmcajmdaagreatdoor", sum := "4fdbe08cd9870f6afa5cab850937dc817b27c4c4f2df6655a92ed3392280ca4c", func := "affidavit/affidavitlaw16.TaskPlain", spec := "taskPlain", inPlace := ["math/bits.Add64"], unfollowed := true, recurses := true, named := ["math/bits.deBruijn64tab", "math/bits.divideError", "math/bits.overflowError"], apart := false, laid := [("math/bits.deBruijn64tab", laid_math_bits_deBruijn64tab)] }
def TaskPlainSaid : Prop := taskPlainRow.holds Tryz.pinned (OpenSpec.ofChange taskPlainSpec)

/-- ITS FALSE NEIGHBOUR: 'it returns false'. Refute it at one input. -/
def taskPlainWrong : ChangeSpec := { name := "taskPlain", fn := fun _ => fun
  | [d1, d2, d3] => { results := [.lit (.bool false)], args := [d1, d2, d3] }
  | _ => none }
def TaskPlainWrongFalsely : Prop := taskPlainRow.holds Tryz.pinned (OpenSpec.ofChange taskPlainWrong)

/-- 'affidavitlaw16.TaskTrue': WHATEVER THE INPUT: true; the input reads as it did. -/
def taskTrueSpec : ChangeSpec := { name := "taskTrue", fn := fun _ => fun
  | [d1, d2] => { results := [.lit (.bool true)], args := [d1, d2] }
  | _ => none }
def taskTrueRow : OpenClaim := { program := "ythomeenmcajmdaagreatdoor", sum := "4fdbe08cd9870f6afa5cab850937dc817b27c4c4f2df6655a92ed3392280ca4c", func := "affidavit/affidavitlaw16.TaskTrue", spec := "taskTrue", inPlace := ["math/bits.Add64"], unfollowed := true, recurses := true, named := ["math/bits.deBruijn64tab", "math/bits.divideError", "math/bits.overflowError"], apart := false, laid := [("math/bits.deBruijn64tab", laid_math_bits_deBruijn64tab)] }
def TaskTrueSaid : Prop := taskTrueRow.holds Tryz.pinned (OpenSpec.ofChange taskTrueSpec)

/-- ITS FALSE NEIGHBOUR: 'it returns false'. Refute it at one input. -/
def taskTrueWrong : ChangeSpec := { name := "taskTrue", fn := fun _ => fun
  | [d1, d2] => { results := [.lit (.bool false)], args := [d1, d2] }
  | _ => none }
def TaskTrueWrongFalsely : Prop := taskTrueRow.holds Tryz.pinned (OpenSpec.ofChange taskTrueWrong)

/-- 'affidavitlaw16.TaskScaled': WHATEVER THE INPUT: true; the input reads as it did. -/
def taskScaledSpec : ChangeSpec := { name := "taskScaled", fn := fun _ => fun
  | [d1, d2, d3, d4, d5] => { results := [.lit (.bool true)], args := [d1, d2, d3, d4, d5] }
  | _ => none }
def taskScaledRow : OpenClaim := { program := "ythomeenmcajmdaagreatdoor", sum := "4fdbe08cd9870f6afa5cab850937dc817b27c4c4f2df6655a92ed3392280ca4c", func := "affidavit/affidavitlaw16.TaskScaled", spec := "taskScaled", inPlace := ["math/bits.Add64"], unfollowed := true, recurses := true, named := ["math/bits.deBruijn64tab", "math/bits.divideError", "math/bits.overflowError"], apart := false, laid := [("math/bits.deBruijn64tab", laid_math_bits_deBruijn64tab)] }
def TaskScaledSaid : Prop := taskScaledRow.holds Tryz.pinned (OpenSpec.ofChange taskScaledSpec)

/-- ITS FALSE NEIGHBOUR: 'it returns false'. Refute it at one input. -/
def taskScaledWrong : ChangeSpec := { name := "taskScaled", fn := fun _ => fun
  | [d1, d2, d3, d4, d5] => { results := [.lit (.bool false)], args := [d1, d2, d3, d4, d5] }
  | _ => none }
def TaskScaledWrongFalsely : Prop := taskScaledRow.holds Tryz.pinned (OpenSpec.ofChange taskScaledWrong)

/- THE SECOND FORM. 'bulk': how many values and letters a reading holds, each counted each time it is reached (what is shared counts as often as it is met; a slice's spare places count too). A statement '..UptoSaid' is the law's where the arguments, and the package variables that the reading takes, are together of bulk at most 1048576: NARROWER than '..Said'. Prove '..Said' where nothing that the law and all that it calls make is longer than what came in: it says more and counts as full. Else prove '..UptoSaid'. A law counts once. -/
mutual
def uptoBulk {H : Type} : DataW H → Nat
  | .lit (.string bytes) => bytes.length + 1
  | .lit _ => 1
  | .nil => 1
  | .ptr d => uptoBulk d + 1
  | .slice elems spare => uptoBulkAll elems + uptoBulkAll spare + 1
  | .agg parts => uptoBulkAll parts + 1
  | .iface _ d => uptoBulk d + 1
  | .map entries => uptoBulkEntries entries + 1
  | .held _ => 1
def uptoBulkAll {H : Type} : List (DataW H) → Nat
  | [] => 0
  | d :: r => uptoBulk d + uptoBulkAll r
def uptoBulkEntries {H : Type} : List (Lit × DataW H) → Nat
  | [] => 0
  | x :: r => uptoBulkEntry x + uptoBulkEntries r
def uptoBulkEntry {H : Type} : Lit × DataW H → Nat
  | (.string bytes, d) => bytes.length + uptoBulk d + 1
  | (_, d) => uptoBulk d + 1
 end
def uptoSmall : (H : Type) → List (DataW H) → Bool := fun _ ds => decide (uptoBulkAll ds ≤ 1048576)
def OpenSpec.upto (s : _root_.Go.ChangeSpec) : _root_.Go.OpenSpec := { _root_.Go.OpenSpec.ofChange s with cond := some uptoSmall }

/-- 'affidavitlaw16.TaskRight', WHERE WHAT IT READS IS OF BULK AT MOST 1048576: true; the input reads as it did. -/
def taskRightUptoRow : OpenClaim := { program := "ythomeenmcajmdaagreatdoor", sum := "4fdbe08cd9870f6afa5cab850937dc817b27c4c4f2df6655a92ed3392280ca4c", func := "affidavit/affidavitlaw16.TaskRight", spec := "taskRight", inPlace := ["math/bits.Add64"], unfollowed := true, recurses := true, named := ["math/bits.deBruijn64tab", "math/bits.divideError", "math/bits.overflowError"], apart := false, laid := [("math/bits.deBruijn64tab", laid_math_bits_deBruijn64tab)], narrowed := true }
def TaskRightUptoSaid : Prop := taskRightUptoRow.holds Tryz.pinned (OpenSpec.upto taskRightSpec)

/-- 'affidavitlaw16.TaskPlain', WHERE WHAT IT READS IS OF BULK AT MOST 1048576: true; the input reads as it did. -/
def taskPlainUptoRow : OpenClaim := { program := "ythomeenmcajmdaagreatdoor", sum := "4fdbe08cd9870f6afa5cab850937dc817b27c4c4f2df6655a92ed3392280ca4c", func := "affidavit/affidavitlaw16.TaskPlain", spec := "taskPlain", inPlace := ["math/bits.Add64"], unfollowed := true, recurses := true, named := ["math/bits.deBruijn64tab", "math/bits.divideError", "math/bits.overflowError"], apart := false, laid := [("math/bits.deBruijn64tab", laid_math_bits_deBruijn64tab)], narrowed := true }
def TaskPlainUptoSaid : Prop := taskPlainUptoRow.holds Tryz.pinned (OpenSpec.upto taskPlainSpec)

/-- 'affidavitlaw16.TaskTrue', WHERE WHAT IT READS IS OF BULK AT MOST 1048576: true; the input reads as it did. -/
def taskTrueUptoRow : OpenClaim := { program := "ythomeenmcajmdaagreatdoor", sum := "4fdbe08cd9870f6afa5cab850937dc817b27c4c4f2df6655a92ed3392280ca4c", func := "affidavit/affidavitlaw16.TaskTrue", spec := "taskTrue", inPlace := ["math/bits.Add64"], unfollowed := true, recurses := true, named := ["math/bits.deBruijn64tab", "math/bits.divideError", "math/bits.overflowError"], apart := false, laid := [("math/bits.deBruijn64tab", laid_math_bits_deBruijn64tab)], narrowed := true }
def TaskTrueUptoSaid : Prop := taskTrueUptoRow.holds Tryz.pinned (OpenSpec.upto taskTrueSpec)

/-- 'affidavitlaw16.TaskScaled', WHERE WHAT IT READS IS OF BULK AT MOST 1048576: true; the input reads as it did. -/
def taskScaledUptoRow : OpenClaim := { program := "ythomeenmcajmdaagreatdoor", sum := "4fdbe08cd9870f6afa5cab850937dc817b27c4c4f2df6655a92ed3392280ca4c", func := "affidavit/affidavitlaw16.TaskScaled", spec := "taskScaled", inPlace := ["math/bits.Add64"], unfollowed := true, recurses := true, named := ["math/bits.deBruijn64tab", "math/bits.divideError", "math/bits.overflowError"], apart := false, laid := [("math/bits.deBruijn64tab", laid_math_bits_deBruijn64tab)], narrowed := true }
def TaskScaledUptoSaid : Prop := taskScaledUptoRow.holds Tryz.pinned (OpenSpec.upto taskScaledSpec)

end Rows
end Go.Proofs.YthomeenmcajmdaaGreatDoor
