/-
  No cell of these rows narrows 'for every input' (looked for: loops, veiled, ifaces, maps, wideKeys, modest, calm, conditions, laid).
  DERIVED. THE GIVEN ROWS OF THIS SEAT. 3 by the template 'for every input the law returns true; each argument reads behind the call as it read before'; 0 by the template 'total and deterministic' (their statements: YtdfkojbfgodegaaTotals.lean).
  GIVEN WITH THE SEED: the statements are not yours to turn. If you find one false, say at which input.
  Laid BY PROGRAM, IN A SANDBOX (cutbox-rows.mjs): the forced cells as the released guide's own fill.sh prints them over the translation cb7bd66f003a10ae… (all of the seat's roots in one cut). By AI agents, Wed Nov 11 2026. No macro, syntax, notation, axiom, sorry.
-/
import Derived.Test.YtdfkojbfgodegaaChecked
import GoSem.Claim
import GoSem.ClaimJoined
import GoSem.ClaimMapViews
import Derived.JoinedTies
import Derived.KernelRfl
namespace Go.Proofs.Ytdfkojbfgodegaa
/- THE CELL 'sum', in the pinned program and in every row, IS THE sha256 OF THE DUMP (.gsa) THAT YtdfkojbfgodegaaProg.lean LOADS. Nothing in Lean hashes anything: it is a label: what it is worth is what the hold of that sum in a sandbox is worth. -/
noncomputable def Try.pinned : Pinned := { name := "ytdfkojbfgodegaa", sum := "cb7bd66f003a10aef73fd3f5319762ced92aba5546f48a0b5efd6ee90677dd15", checked := Try.checked }
namespace Rows
def none {H : Type} : Left H := { results := [], args := [] }

/-- 'affidavitlaw14.WitnessShows': WHATEVER THE INPUT: true; the input reads as it did. -/
def witnessShowsSpec : ChangeSpec := { name := "witnessShows", fn := fun _ => fun
  | [d1, d2, d3, d4, d5] => { results := [.lit (.bool true)], args := [d1, d2, d3, d4, d5] }
  | _ => none }
def witnessShowsRow : OpenClaim := { program := "ytdfkojbfgodegaa", sum := "cb7bd66f003a10aef73fd3f5319762ced92aba5546f48a0b5efd6ee90677dd15", func := "affidavit/affidavitlaw14.WitnessShows", spec := "witnessShows", inPlace := ["math/bits.Add64"], unfollowed := true, recurses := true, named := ["math/bits.divideError", "math/bits.overflowError"], apart := false }
def WitnessShowsSaid : Prop := witnessShowsRow.holds Try.pinned (OpenSpec.ofChange witnessShowsSpec)

/-- ITS FALSE NEIGHBOUR: 'it returns false'. Refute it at one input. -/
def witnessShowsWrong : ChangeSpec := { name := "witnessShows", fn := fun _ => fun
  | [d1, d2, d3, d4, d5] => { results := [.lit (.bool false)], args := [d1, d2, d3, d4, d5] }
  | _ => none }
def WitnessShowsWrongFalsely : Prop := witnessShowsRow.holds Try.pinned (OpenSpec.ofChange witnessShowsWrong)

/-- 'affidavitlaw14.WitnessParts': WHATEVER THE INPUT: true; the input reads as it did. -/
def witnessPartsSpec : ChangeSpec := { name := "witnessParts", fn := fun _ => fun
  | [d1, d2] => { results := [.lit (.bool true)], args := [d1, d2] }
  | _ => none }
def witnessPartsRow : OpenClaim := { program := "ytdfkojbfgodegaa", sum := "cb7bd66f003a10aef73fd3f5319762ced92aba5546f48a0b5efd6ee90677dd15", func := "affidavit/affidavitlaw14.WitnessParts", spec := "witnessParts", inPlace := ["math/bits.Add64"], unfollowed := true, recurses := true, named := ["math/bits.divideError", "math/bits.overflowError"], apart := false }
def WitnessPartsSaid : Prop := witnessPartsRow.holds Try.pinned (OpenSpec.ofChange witnessPartsSpec)

/-- ITS FALSE NEIGHBOUR: 'it returns false'. Refute it at one input. -/
def witnessPartsWrong : ChangeSpec := { name := "witnessParts", fn := fun _ => fun
  | [d1, d2] => { results := [.lit (.bool false)], args := [d1, d2] }
  | _ => none }
def WitnessPartsWrongFalsely : Prop := witnessPartsRow.holds Try.pinned (OpenSpec.ofChange witnessPartsWrong)

/-- 'affidavitlaw14.WitnessSums': WHATEVER THE INPUT: true; the input reads as it did. -/
def witnessSumsSpec : ChangeSpec := { name := "witnessSums", fn := fun _ => fun
  | [d1, d2, d3, d4, d5, d6, d7] => { results := [.lit (.bool true)], args := [d1, d2, d3, d4, d5, d6, d7] }
  | _ => none }
def witnessSumsRow : OpenClaim := { program := "ytdfkojbfgodegaa", sum := "cb7bd66f003a10aef73fd3f5319762ced92aba5546f48a0b5efd6ee90677dd15", func := "affidavit/affidavitlaw14.WitnessSums", spec := "witnessSums", inPlace := ["math/bits.Add64"], unfollowed := true, recurses := true, named := ["math/bits.divideError", "math/bits.overflowError"], apart := false }
def WitnessSumsSaid : Prop := witnessSumsRow.holds Try.pinned (OpenSpec.ofChange witnessSumsSpec)

/-- ITS FALSE NEIGHBOUR: 'it returns false'. Refute it at one input. -/
def witnessSumsWrong : ChangeSpec := { name := "witnessSums", fn := fun _ => fun
  | [d1, d2, d3, d4, d5, d6, d7] => { results := [.lit (.bool false)], args := [d1, d2, d3, d4, d5, d6, d7] }
  | _ => none }
def WitnessSumsWrongFalsely : Prop := witnessSumsRow.holds Try.pinned (OpenSpec.ofChange witnessSumsWrong)

/- THE SECOND FORM. 'bulk': how many values and letters a reading holds, each counted each time it is reached (what is shared counts as often as it is met; a slice's spare places count too). A statement '..UptoSaid' is the law's where the arguments, and the package variables that the reading takes, are together of bulk at most 1048576: NARROWER than '..Said'. Prove '..Said' where nothing that the law and all that it calls make is longer than what came in: it says more and counts as full. Else prove '..UptoSaid'. A law counts once. -/
mutual
def uptoBulk {H : Type} : DataW H → Nat
  | .lit (.string bytes) => bytes.length + 1
  | .lit _ => 1
  | .nil => 1
  | .ptr d => uptoBulk d + 1
  | .slice elems spare => uptoBulkAll elems + uptoBulkAll spare + 1
  | .agg parts => uptoBulkAll parts + 1
  | .iface _ d => uptoBulk d + 1
  | .map entries => uptoBulkEntries entries + 1
  | .held _ => 1
def uptoBulkAll {H : Type} : List (DataW H) → Nat
  | [] => 0
  | d :: r => uptoBulk d + uptoBulkAll r
def uptoBulkEntries {H : Type} : List (Lit × DataW H) → Nat
  | [] => 0
  | x :: r => uptoBulkEntry x + uptoBulkEntries r
def uptoBulkEntry {H : Type} : Lit × DataW H → Nat
  | (.string bytes, d) => bytes.length + uptoBulk d + 1
  | (_, d) => uptoBulk d + 1
 end
def uptoSmall : (H : Type) → List (DataW H) → Bool := fun _ ds => decide (uptoBulkAll ds ≤ 1048576)
def OpenSpec.upto (s : _root_.Go.ChangeSpec) : _root_.Go.OpenSpec := { _root_.Go.OpenSpec.ofChange s with cond := some uptoSmall }

/-- 'affidavitlaw14.WitnessShows', WHERE WHAT IT READS IS OF BULK AT MOST 1048576: true; the input reads as it did. -/
def witnessShowsUptoRow : OpenClaim := { program := "ytdfkojbfgodegaa", sum := "cb7bd66f003a10aef73fd3f5319762ced92aba5546f48a0b5efd6ee90677dd15", func := "affidavit/affidavitlaw14.WitnessShows", spec := "witnessShows", inPlace := ["math/bits.Add64"], unfollowed := true, recurses := true, named := ["math/bits.divideError", "math/bits.overflowError"], apart := false, narrowed := true }
def WitnessShowsUptoSaid : Prop := witnessShowsUptoRow.holds Try.pinned (OpenSpec.upto witnessShowsSpec)

/-- 'affidavitlaw14.WitnessParts', WHERE WHAT IT READS IS OF BULK AT MOST 1048576: true; the input reads as it did. -/
def witnessPartsUptoRow : OpenClaim := { program := "ytdfkojbfgodegaa", sum := "cb7bd66f003a10aef73fd3f5319762ced92aba5546f48a0b5efd6ee90677dd15", func := "affidavit/affidavitlaw14.WitnessParts", spec := "witnessParts", inPlace := ["math/bits.Add64"], unfollowed := true, recurses := true, named := ["math/bits.divideError", "math/bits.overflowError"], apart := false, narrowed := true }
def WitnessPartsUptoSaid : Prop := witnessPartsUptoRow.holds Try.pinned (OpenSpec.upto witnessPartsSpec)

/-- 'affidavitlaw14.WitnessSums', WHERE WHAT IT READS IS OF BULK AT MOST 1048576: true; the input reads as it did. -/
def witnessSumsUptoRow : OpenClaim := { program := "ytdfkojbfgodegaa", sum := "cb7bd66f003a10aef73fd3f5319762ced92aba5546f48a0b5efd6ee90677dd15", func := "affidavit/affidavitlaw14.WitnessSums", spec := "witnessSums", inPlace := ["math/bits.Add64"], unfollowed := true, recurses := true, named := ["math/bits.divideError", "math/bits.overflowError"], apart := false, narrowed := true }
def WitnessSumsUptoSaid : Prop := witnessSumsUptoRow.holds Try.pinned (OpenSpec.upto witnessSumsSpec)

end Rows
end Go.Proofs.Ytdfkojbfgodegaa
