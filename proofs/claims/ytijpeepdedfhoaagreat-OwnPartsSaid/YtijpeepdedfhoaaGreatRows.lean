/-
  No cell of these rows narrows 'for every input' (looked for: loops, veiled, ifaces, maps, wideKeys, modest, calm, conditions, laid).
  DERIVED. THE GIVEN ROWS OF THIS SEAT. 4 by the template 'for every input the law returns true; each argument reads behind the call as it read before'; 0 by the template 'total and deterministic' (their statements: YtijpeepdedfhoaaGreatTotals.lean).
  GIVEN WITH THE SEED: the statements are not yours to turn. If you find one false, say at which input.
  Laid BY PROGRAM, IN A SANDBOX (cutbox-rows.mjs): the forced cells as the released guide's own fill.sh prints them over the translation a16872023bb6f714… (all of the seat's roots in one cut). By AI agents, Wed Nov 11 2026. No macro, syntax, notation, axiom, sorry.
-/
import Derived.Test.YtijpeepdedfhoaaGreatChecked
import GoSem.Claim
import GoSem.ClaimJoined
import GoSem.ClaimMapViews
import Derived.JoinedTies
import Derived.KernelRfl
namespace Go.Proofs.YtijpeepdedfhoaaGreat
/- THE CELL 'sum', in the pinned program and in every row, IS THE sha256 OF THE DUMP (.gsa) THAT YtijpeepdedfhoaaGreatProg.lean LOADS. Nothing in Lean hashes anything: it is a label: what it is worth is what the hold of that sum in a sandbox is worth. -/
noncomputable def Tryz.pinned : Pinned := { name := "ytijpeepdedfhoaagreat", sum := "a16872023bb6f714f9665ffae232cc211300df89b531e501ac2c775ea7234378", checked := Tryz.checked }
namespace Rows
def none {H : Type} : Left H := { results := [], args := [] }

/-- 'affidavitlaw15.OwnHonest': WHATEVER THE INPUT: true; the input reads as it did. -/
def ownHonestSpec : ChangeSpec := { name := "ownHonest", fn := fun _ => fun
  | [d1, d2, d3, d4, d5, d6] => { results := [.lit (.bool true)], args := [d1, d2, d3, d4, d5, d6] }
  | _ => none }
def ownHonestRow : OpenClaim := { program := "ytijpeepdedfhoaagreat", sum := "a16872023bb6f714f9665ffae232cc211300df89b531e501ac2c775ea7234378", func := "affidavit/affidavitlaw15.OwnHonest", spec := "ownHonest", inPlace := ["math/bits.Add64"], unfollowed := true, recurses := true, named := ["math/bits.divideError", "math/bits.overflowError"], apart := false }
def OwnHonestSaid : Prop := ownHonestRow.holds Tryz.pinned (OpenSpec.ofChange ownHonestSpec)

/-- ITS FALSE NEIGHBOUR: 'it returns false'. Refute it at one input. -/
def ownHonestWrong : ChangeSpec := { name := "ownHonest", fn := fun _ => fun
  | [d1, d2, d3, d4, d5, d6] => { results := [.lit (.bool false)], args := [d1, d2, d3, d4, d5, d6] }
  | _ => none }
def OwnHonestWrongFalsely : Prop := ownHonestRow.holds Tryz.pinned (OpenSpec.ofChange ownHonestWrong)

/-- 'affidavitlaw15.OwnFew': WHATEVER THE INPUT: true; the input reads as it did. -/
def ownFewSpec : ChangeSpec := { name := "ownFew", fn := fun _ => fun
  | [d1, d2, d3] => { results := [.lit (.bool true)], args := [d1, d2, d3] }
  | _ => none }
def ownFewRow : OpenClaim := { program := "ytijpeepdedfhoaagreat", sum := "a16872023bb6f714f9665ffae232cc211300df89b531e501ac2c775ea7234378", func := "affidavit/affidavitlaw15.OwnFew", spec := "ownFew", inPlace := ["math/bits.Add64"], unfollowed := true, recurses := true, named := ["math/bits.divideError", "math/bits.overflowError"], apart := false }
def OwnFewSaid : Prop := ownFewRow.holds Tryz.pinned (OpenSpec.ofChange ownFewSpec)

/-- ITS FALSE NEIGHBOUR: 'it returns false'. Refute it at one input. -/
def ownFewWrong : ChangeSpec := { name := "ownFew", fn := fun _ => fun
  | [d1, d2, d3] => { results := [.lit (.bool false)], args := [d1, d2, d3] }
  | _ => none }
def OwnFewWrongFalsely : Prop := ownFewRow.holds Tryz.pinned (OpenSpec.ofChange ownFewWrong)

/-- 'affidavitlaw15.OwnParts': WHATEVER THE INPUT: true; the input reads as it did. -/
def ownPartsSpec : ChangeSpec := { name := "ownParts", fn := fun _ => fun
  | [d1, d2, d3] => { results := [.lit (.bool true)], args := [d1, d2, d3] }
  | _ => none }
def ownPartsRow : OpenClaim := { program := "ytijpeepdedfhoaagreat", sum := "a16872023bb6f714f9665ffae232cc211300df89b531e501ac2c775ea7234378", func := "affidavit/affidavitlaw15.OwnParts", spec := "ownParts", inPlace := ["math/bits.Add64"], unfollowed := true, recurses := true, named := ["math/bits.divideError", "math/bits.overflowError"], apart := false }
def OwnPartsSaid : Prop := ownPartsRow.holds Tryz.pinned (OpenSpec.ofChange ownPartsSpec)

/-- ITS FALSE NEIGHBOUR: 'it returns false'. Refute it at one input. -/
def ownPartsWrong : ChangeSpec := { name := "ownParts", fn := fun _ => fun
  | [d1, d2, d3] => { results := [.lit (.bool false)], args := [d1, d2, d3] }
  | _ => none }
def OwnPartsWrongFalsely : Prop := ownPartsRow.holds Tryz.pinned (OpenSpec.ofChange ownPartsWrong)

/-- 'affidavitlaw15.OwnSame': WHATEVER THE INPUT: true; the input reads as it did. -/
def ownSameSpec : ChangeSpec := { name := "ownSame", fn := fun _ => fun
  | [d1, d2, d3, d4, d5, d6, d7] => { results := [.lit (.bool true)], args := [d1, d2, d3, d4, d5, d6, d7] }
  | _ => none }
def ownSameRow : OpenClaim := { program := "ytijpeepdedfhoaagreat", sum := "a16872023bb6f714f9665ffae232cc211300df89b531e501ac2c775ea7234378", func := "affidavit/affidavitlaw15.OwnSame", spec := "ownSame", inPlace := ["math/bits.Add64"], unfollowed := true, recurses := true, named := ["math/bits.divideError", "math/bits.overflowError"], apart := false }
def OwnSameSaid : Prop := ownSameRow.holds Tryz.pinned (OpenSpec.ofChange ownSameSpec)

/-- ITS FALSE NEIGHBOUR: 'it returns false'. Refute it at one input. -/
def ownSameWrong : ChangeSpec := { name := "ownSame", fn := fun _ => fun
  | [d1, d2, d3, d4, d5, d6, d7] => { results := [.lit (.bool false)], args := [d1, d2, d3, d4, d5, d6, d7] }
  | _ => none }
def OwnSameWrongFalsely : Prop := ownSameRow.holds Tryz.pinned (OpenSpec.ofChange ownSameWrong)

/- THE SECOND FORM. 'bulk': how many values and letters a reading holds, each counted each time it is reached (what is shared counts as often as it is met; a slice's spare places count too). A statement '..UptoSaid' is the law's where the arguments, and the package variables that the reading takes, are together of bulk at most 1048576: NARROWER than '..Said'. Prove '..Said' where nothing that the law and all that it calls make is longer than what came in: it says more and counts as full. Else prove '..UptoSaid'. A law counts once. -/
mutual
def uptoBulk {H : Type} : DataW H → Nat
  | .lit (.string bytes) => bytes.length + 1
  | .lit _ => 1
  | .nil => 1
  | .ptr d => uptoBulk d + 1
  | .slice elems spare => uptoBulkAll elems + uptoBulkAll spare + 1
  | .agg parts => uptoBulkAll parts + 1
  | .iface _ d => uptoBulk d + 1
  | .map entries => uptoBulkEntries entries + 1
  | .held _ => 1
def uptoBulkAll {H : Type} : List (DataW H) → Nat
  | [] => 0
  | d :: r => uptoBulk d + uptoBulkAll r
def uptoBulkEntries {H : Type} : List (Lit × DataW H) → Nat
  | [] => 0
  | x :: r => uptoBulkEntry x + uptoBulkEntries r
def uptoBulkEntry {H : Type} : Lit × DataW H → Nat
  | (.string bytes, d) => bytes.length + uptoBulk d + 1
  | (_, d) => uptoBulk d + 1
 end
def uptoSmall : (H : Type) → List (DataW H) → Bool := fun _ ds => decide (uptoBulkAll ds ≤ 1048576)
def OpenSpec.upto (s : _root_.Go.ChangeSpec) : _root_.Go.OpenSpec := { _root_.Go.OpenSpec.ofChange s with cond := some uptoSmall }

/-- 'affidavitlaw15.OwnHonest', WHERE WHAT IT READS IS OF BULK AT MOST 1048576: true; the input reads as it did. -/
def ownHonestUptoRow : OpenClaim := { program := "ytijpeepdedfhoaagreat", sum := "a16872023bb6f714f9665ffae232cc211300df89b531e501ac2c775ea7234378", func := "affidavit/affidavitlaw15.OwnHonest", spec := "ownHonest", inPlace := ["math/bits.Add64"], unfollowed := true, recurses := true, named := ["math/bits.divideError", "math/bits.overflowError"], apart := false, narrowed := true }
def OwnHonestUptoSaid : Prop := ownHonestUptoRow.holds Tryz.pinned (OpenSpec.upto ownHonestSpec)

/-- 'affidavitlaw15.OwnFew', WHERE WHAT IT READS IS OF BULK AT MOST 1048576: true; the input reads as it did. -/
def ownFewUptoRow : OpenClaim := { program := "ytijpeepdedfhoaagreat", sum := "a16872023bb6f714f9665ffae232cc211300df89b531e501ac2c775ea7234378", func := "affidavit/affidavitlaw15.OwnFew", spec := "ownFew", inPlace := ["math/bits.Add64"], unfollowed := true, recurses := true, named := ["math/bits.divideError", "math/bits.overflowError"], apart := false, narrowed := true }
def OwnFewUptoSaid : Prop := ownFewUptoRow.holds Tryz.pinned (OpenSpec.upto ownFewSpec)

/-- 'affidavitlaw15.OwnParts', WHERE WHAT IT READS IS OF BULK AT MOST 1048576: true; the input reads as it did. -/
def ownPartsUptoRow : OpenClaim := { program := "ytijpeepdedfhoaagreat", sum := "a16872023bb6f714f9665ffae232cc211300df89b531e501ac2c775ea7234378", func := "affidavit/affidavitlaw15.OwnParts", spec := "ownParts", inPlace := ["math/bits.Add64"], unfollowed := true, recurses := true, named := ["math/bits.divideError", "math/bits.overflowError"], apart := false, narrowed := true }
def OwnPartsUptoSaid : Prop := ownPartsUptoRow.holds Tryz.pinned (OpenSpec.upto ownPartsSpec)

/-- 'affidavitlaw15.OwnSame', WHERE WHAT IT READS IS OF BULK AT MOST 1048576: true; the input reads as it did. -/
def ownSameUptoRow : OpenClaim := { program := "ytijpeepdedfhoaagreat", sum := "a16872023bb6f714f9665ffae232cc211300df89b531e501ac2c775ea7234378", func := "affidavit/affidavitlaw15.OwnSame", spec := "ownSame", inPlace := ["math/bits.Add64"], unfollowed := true, recurses := true, named := ["math/bits.divideError", "math/bits.overflowError"], apart := false, narrowed := true }
def OwnSameUptoSaid : Prop := ownSameUptoRow.holds Tryz.pinned (OpenSpec.upto ownSameSpec)

end Rows
end Go.Proofs.YtijpeepdedfhoaaGreat
