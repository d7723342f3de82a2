/-
  No cell of these rows narrows 'for every input' (looked for: loops, veiled, ifaces, maps, wideKeys, modest, calm, conditions, laid).
  DERIVED. THE GIVEN ROWS OF THIS SEAT. 5 by the template 'for every input the law returns true; each argument reads behind the call as it read before'; 0 by the template 'total and deterministic' (their statements: YtbpbagejblbacaaTotals.lean).
  GIVEN WITH THE SEED: the statements are not yours to turn. If you find one false, say at which input.
  Laid BY PROGRAM, IN A SANDBOX (cutbox-rows.mjs): the forced cells as the released guide's own fill.sh prints them over the translation f0d99c4ac7efadc2… (all of the seat's roots in one cut). By AI agents, Wed Nov 11 2026. No macro, syntax, notation, axiom, sorry.
-/
import Derived.Test.YtbpbagejblbacaaChecked
import GoSem.Claim
import GoSem.ClaimJoined
import GoSem.ClaimMapViews
import Derived.JoinedTies
import Derived.KernelRfl
namespace Go.Proofs.Ytbpbagejblbacaa
/- THE CELL 'sum', in the pinned program and in every row, IS THE sha256 OF THE DUMP (.gsa) THAT YtbpbagejblbacaaProg.lean LOADS. Nothing in Lean hashes anything: it is a label: what it is worth is what the hold of that sum in a sandbox is worth. -/
noncomputable def Try.pinned : Pinned := { name := "ytbpbagejblbacaa", sum := "f0d99c4ac7efadc213845fa62877d5a55448c50eb3772ed057901a1c4b4192d3", checked := Try.checked }
namespace Rows
def none {H : Type} : Left H := { results := [], args := [] }

/-- 'affidavitlaw04.SeriesRight': WHATEVER THE INPUT: true; the input reads as it did. -/
def seriesRightSpec : ChangeSpec := { name := "seriesRight", fn := fun _ => fun
  | [d1, d2, d3, d4] => { results := [.lit (.bool true)], args := [d1, d2, d3, d4] }
  | _ => none }
def seriesRightRow : OpenClaim := { program := "ytbpbagejblbacaa", sum := "f0d99c4ac7efadc213845fa62877d5a55448c50eb3772ed057901a1c4b4192d3", func := "affidavit/affidavitlaw04.SeriesRight", spec := "seriesRight", inPlace := ["math/bits.Add64"], recurses := true, named := ["math/bits.divideError", "math/bits.overflowError"], apart := false }
def SeriesRightSaid : Prop := seriesRightRow.holds Try.pinned (OpenSpec.ofChange seriesRightSpec)

/-- ITS FALSE NEIGHBOUR: 'it returns false'. Refute it at one input. -/
def seriesRightWrong : ChangeSpec := { name := "seriesRight", fn := fun _ => fun
  | [d1, d2, d3, d4] => { results := [.lit (.bool false)], args := [d1, d2, d3, d4] }
  | _ => none }
def SeriesRightWrongFalsely : Prop := seriesRightRow.holds Try.pinned (OpenSpec.ofChange seriesRightWrong)

/-- 'affidavitlaw04.SeriesShortest': WHATEVER THE INPUT: true; the input reads as it did. -/
def seriesShortestSpec : ChangeSpec := { name := "seriesShortest", fn := fun _ => fun
  | [d1, d2] => { results := [.lit (.bool true)], args := [d1, d2] }
  | _ => none }
def seriesShortestRow : OpenClaim := { program := "ytbpbagejblbacaa", sum := "f0d99c4ac7efadc213845fa62877d5a55448c50eb3772ed057901a1c4b4192d3", func := "affidavit/affidavitlaw04.SeriesShortest", spec := "seriesShortest", inPlace := ["math/bits.Add64"], recurses := true, named := ["math/bits.divideError", "math/bits.overflowError"], apart := false }
def SeriesShortestSaid : Prop := seriesShortestRow.holds Try.pinned (OpenSpec.ofChange seriesShortestSpec)

/-- ITS FALSE NEIGHBOUR: 'it returns false'. Refute it at one input. -/
def seriesShortestWrong : ChangeSpec := { name := "seriesShortest", fn := fun _ => fun
  | [d1, d2] => { results := [.lit (.bool false)], args := [d1, d2] }
  | _ => none }
def SeriesShortestWrongFalsely : Prop := seriesShortestRow.holds Try.pinned (OpenSpec.ofChange seriesShortestWrong)

/-- 'affidavitlaw04.SeriesFinds': WHATEVER THE INPUT: true; the input reads as it did. -/
def seriesFindsSpec : ChangeSpec := { name := "seriesFinds", fn := fun _ => fun
  | [d1, d2, d3] => { results := [.lit (.bool true)], args := [d1, d2, d3] }
  | _ => none }
def seriesFindsRow : OpenClaim := { program := "ytbpbagejblbacaa", sum := "f0d99c4ac7efadc213845fa62877d5a55448c50eb3772ed057901a1c4b4192d3", func := "affidavit/affidavitlaw04.SeriesFinds", spec := "seriesFinds", inPlace := ["math/bits.Add64"], named := ["math/bits.divideError", "math/bits.overflowError"], apart := false }
def SeriesFindsSaid : Prop := seriesFindsRow.holds Try.pinned (OpenSpec.ofChange seriesFindsSpec)

/-- ITS FALSE NEIGHBOUR: 'it returns false'. Refute it at one input. -/
def seriesFindsWrong : ChangeSpec := { name := "seriesFinds", fn := fun _ => fun
  | [d1, d2, d3] => { results := [.lit (.bool false)], args := [d1, d2, d3] }
  | _ => none }
def SeriesFindsWrongFalsely : Prop := seriesFindsRow.holds Try.pinned (OpenSpec.ofChange seriesFindsWrong)

/-- 'affidavitlaw04.SeriesMore': WHATEVER THE INPUT: true; the input reads as it did. -/
def seriesMoreSpec : ChangeSpec := { name := "seriesMore", fn := fun _ => fun
  | [d1, d2, d3, d4] => { results := [.lit (.bool true)], args := [d1, d2, d3, d4] }
  | _ => none }
def seriesMoreRow : OpenClaim := { program := "ytbpbagejblbacaa", sum := "f0d99c4ac7efadc213845fa62877d5a55448c50eb3772ed057901a1c4b4192d3", func := "affidavit/affidavitlaw04.SeriesMore", spec := "seriesMore", inPlace := ["math/bits.Add64"], named := ["math/bits.divideError", "math/bits.overflowError"], apart := false }
def SeriesMoreSaid : Prop := seriesMoreRow.holds Try.pinned (OpenSpec.ofChange seriesMoreSpec)

/-- ITS FALSE NEIGHBOUR: 'it returns false'. Refute it at one input. -/
def seriesMoreWrong : ChangeSpec := { name := "seriesMore", fn := fun _ => fun
  | [d1, d2, d3, d4] => { results := [.lit (.bool false)], args := [d1, d2, d3, d4] }
  | _ => none }
def SeriesMoreWrongFalsely : Prop := seriesMoreRow.holds Try.pinned (OpenSpec.ofChange seriesMoreWrong)

/-- 'affidavitlaw04.SeriesSums': WHATEVER THE INPUT: true; the input reads as it did. -/
def seriesSumsSpec : ChangeSpec := { name := "seriesSums", fn := fun _ => fun
  | [d1, d2, d3, d4, d5] => { results := [.lit (.bool true)], args := [d1, d2, d3, d4, d5] }
  | _ => none }
def seriesSumsRow : OpenClaim := { program := "ytbpbagejblbacaa", sum := "f0d99c4ac7efadc213845fa62877d5a55448c50eb3772ed057901a1c4b4192d3", func := "affidavit/affidavitlaw04.SeriesSums", spec := "seriesSums", inPlace := ["math/bits.Add64"], named := ["math/bits.divideError", "math/bits.overflowError"], apart := false }
def SeriesSumsSaid : Prop := seriesSumsRow.holds Try.pinned (OpenSpec.ofChange seriesSumsSpec)

/-- ITS FALSE NEIGHBOUR: 'it returns false'. Refute it at one input. -/
def seriesSumsWrong : ChangeSpec := { name := "seriesSums", fn := fun _ => fun
  | [d1, d2, d3, d4, d5] => { results := [.lit (.bool false)], args := [d1, d2, d3, d4, d5] }
  | _ => none }
def SeriesSumsWrongFalsely : Prop := seriesSumsRow.holds Try.pinned (OpenSpec.ofChange seriesSumsWrong)

/- THE SECOND FORM. 'bulk': how many values and letters a reading holds, each counted each time it is reached (what is shared counts as often as it is met; a slice's spare places count too). A statement '..UptoSaid' is the law's where the arguments, and the package variables that the reading takes, are together of bulk at most 1048576: NARROWER than '..Said'. Prove '..Said' where nothing that the law and all that it calls make is longer than what came in: it says more and counts as full. Else prove '..UptoSaid'. A law counts once. -/
mutual
def uptoBulk {H : Type} : DataW H → Nat
  | .lit (.string bytes) => bytes.length + 1
  | .lit _ => 1
  | .nil => 1
  | .ptr d => uptoBulk d + 1
  | .slice elems spare => uptoBulkAll elems + uptoBulkAll spare + 1
  | .agg parts => uptoBulkAll parts + 1
  | .iface _ d => uptoBulk d + 1
  | .map entries => uptoBulkEntries entries + 1
  | .held _ => 1
def uptoBulkAll {H : Type} : List (DataW H) → Nat
  | [] => 0
  | d :: r => uptoBulk d + uptoBulkAll r
def uptoBulkEntries {H : Type} : List (Lit × DataW H) → Nat
  | [] => 0
  | x :: r => uptoBulkEntry x + uptoBulkEntries r
def uptoBulkEntry {H : Type} : Lit × DataW H → Nat
  | (.string bytes, d) => bytes.length + uptoBulk d + 1
  | (_, d) => uptoBulk d + 1
 end
def uptoSmall : (H : Type) → List (DataW H) → Bool := fun _ ds => decide (uptoBulkAll ds ≤ 1048576)
def OpenSpec.upto (s : _root_.Go.ChangeSpec) : _root_.Go.OpenSpec := { _root_.Go.OpenSpec.ofChange s with cond := some uptoSmall }

/-- 'affidavitlaw04.SeriesRight', WHERE WHAT IT READS IS OF BULK AT MOST 1048576: true; the input reads as it did. -/
def seriesRightUptoRow : OpenClaim := { program := "ytbpbagejblbacaa", sum := "f0d99c4ac7efadc213845fa62877d5a55448c50eb3772ed057901a1c4b4192d3", func := "affidavit/affidavitlaw04.SeriesRight", spec := "seriesRight", inPlace := ["math/bits.Add64"], recurses := true, named := ["math/bits.divideError", "math/bits.overflowError"], apart := false, narrowed := true }
def SeriesRightUptoSaid : Prop := seriesRightUptoRow.holds Try.pinned (OpenSpec.upto seriesRightSpec)

/-- 'affidavitlaw04.SeriesShortest', WHERE WHAT IT READS IS OF BULK AT MOST 1048576: true; the input reads as it did. -/
def seriesShortestUptoRow : OpenClaim := { program := "ytbpbagejblbacaa", sum := "f0d99c4ac7efadc213845fa62877d5a55448c50eb3772ed057901a1c4b4192d3", func := "affidavit/affidavitlaw04.SeriesShortest", spec := "seriesShortest", inPlace := ["math/bits.Add64"], recurses := true, named := ["math/bits.divideError", "math/bits.overflowError"], apart := false, narrowed := true }
def SeriesShortestUptoSaid : Prop := seriesShortestUptoRow.holds Try.pinned (OpenSpec.upto seriesShortestSpec)

/-- 'affidavitlaw04.SeriesFinds', WHERE WHAT IT READS IS OF BULK AT MOST 1048576: true; the input reads as it did. -/
def seriesFindsUptoRow : OpenClaim := { program := "ytbpbagejblbacaa", sum := "f0d99c4ac7efadc213845fa62877d5a55448c50eb3772ed057901a1c4b4192d3", func := "affidavit/affidavitlaw04.SeriesFinds", spec := "seriesFinds", inPlace := ["math/bits.Add64"], named := ["math/bits.divideError", "math/bits.overflowError"], apart := false, narrowed := true }
def SeriesFindsUptoSaid : Prop := seriesFindsUptoRow.holds Try.pinned (OpenSpec.upto seriesFindsSpec)

/-- 'affidavitlaw04.SeriesMore', WHERE WHAT IT READS IS OF BULK AT MOST 1048576: true; the input reads as it did. -/
def seriesMoreUptoRow : OpenClaim := { program := "ytbpbagejblbacaa", sum := "f0d99c4ac7efadc213845fa62877d5a55448c50eb3772ed057901a1c4b4192d3", func := "affidavit/affidavitlaw04.SeriesMore", spec := "seriesMore", inPlace := ["math/bits.Add64"], named := ["math/bits.divideError", "math/bits.overflowError"], apart := false, narrowed := true }
def SeriesMoreUptoSaid : Prop := seriesMoreUptoRow.holds Try.pinned (OpenSpec.upto seriesMoreSpec)

/-- 'affidavitlaw04.SeriesSums', WHERE WHAT IT READS IS OF BULK AT MOST 1048576: true; the input reads as it did. -/
def seriesSumsUptoRow : OpenClaim := { program := "ytbpbagejblbacaa", sum := "f0d99c4ac7efadc213845fa62877d5a55448c50eb3772ed057901a1c4b4192d3", func := "affidavit/affidavitlaw04.SeriesSums", spec := "seriesSums", inPlace := ["math/bits.Add64"], named := ["math/bits.divideError", "math/bits.overflowError"], apart := false, narrowed := true }
def SeriesSumsUptoSaid : Prop := seriesSumsUptoRow.holds Try.pinned (OpenSpec.upto seriesSumsSpec)

end Rows
end Go.Proofs.Ytbpbagejblbacaa
