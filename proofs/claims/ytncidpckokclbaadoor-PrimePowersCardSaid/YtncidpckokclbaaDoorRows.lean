/-
  NARROWER THAN 'FOR EVERY INPUT', by the rows' own cells (each row's printed sentence says how): PrimeRight: laid · PrimeParts: laid · PrimeBuilds: laid · PrimeShown: laid · PrimePowers: laid · PrimeCut: laid.
  DERIVED. THE GIVEN ROWS OF THIS SEAT. 6 by the template 'for every input the law returns true; each argument reads behind the call as it read before'; 0 by the template 'total and deterministic' (their statements: YtncidpckokclbaaDoorTotals.lean).
  GIVEN WITH THE SEED: the statements are not yours to turn. If you find one false, say at which input.
  Laid BY PROGRAM, IN A SANDBOX (cutbox-rows.mjs): the forced cells as the released guide's own fill.sh prints them over the translation a44d28568bfa97ae… (all of the seat's roots in one cut). By AI agents, Wed Nov 11 2026. No macro, syntax, notation, axiom, sorry.
-/
import Derived.Test.YtncidpckokclbaaDoorChecked
import GoSem.Claim
import GoSem.ClaimJoined
import GoSem.ClaimMapViews
import Derived.JoinedTies
import Derived.KernelRfl
namespace Go.Proofs.YtncidpckokclbaaDoor
/- THE CELL 'sum', in the pinned program and in every row, IS THE sha256 OF THE DUMP (.gsa) THAT YtncidpckokclbaaDoorProg.lean LOADS. Nothing in Lean hashes anything: it is a label: what it is worth is what the hold of that sum in a sandbox is worth. -/
noncomputable def Tryd.pinned : Pinned := { name := "ytncidpckokclbaadoor", sum := "a44d28568bfa97aeab8ce1ff20895a1f0e4fa4b9b9031fce78e0a539fed05787", checked := Tryd.checked }
namespace Rows
def none {H : Type} : Left H := { results := [], args := [] }

/- WHAT THE LISTED PACKAGE-LEVEL VARIABLES READ AS WHEN THE CALL BEGINS. Each datum BY PROGRAM (the guide's laid-datum.mjs) off the statement by which the dump's own 'gosem.cut.vars' lays the variable. In a bare row this is a premise. The card (YtncidpckokclbaaDoorCards.lean) ties it to the program's text. -/
def laid_math_bits_deBruijn64tab {H : Type} : DataW H := .agg [.lit (.int .u8 0), .lit (.int .u8 1), .lit (.int .u8 56), .lit (.int .u8 2), .lit (.int .u8 57), .lit (.int .u8 49), .lit (.int .u8 28), .lit (.int .u8 3), .lit (.int .u8 61), .lit (.int .u8 58), .lit (.int .u8 42), .lit (.int .u8 50), .lit (.int .u8 38), .lit (.int .u8 29), .lit (.int .u8 17), .lit (.int .u8 4), .lit (.int .u8 62), .lit (.int .u8 47), .lit (.int .u8 59), .lit (.int .u8 36), .lit (.int .u8 45), .lit (.int .u8 43), .lit (.int .u8 51), .lit (.int .u8 22), .lit (.int .u8 53), .lit (.int .u8 39), .lit (.int .u8 33), .lit (.int .u8 30), .lit (.int .u8 24), .lit (.int .u8 18), .lit (.int .u8 12), .lit (.int .u8 5), .lit (.int .u8 63), .lit (.int .u8 55), .lit (.int .u8 48), .lit (.int .u8 27), .lit (.int .u8 60), .lit (.int .u8 41), .lit (.int .u8 37), .lit (.int .u8 16), .lit (.int .u8 46), .lit (.int .u8 35), .lit (.int .u8 44), .lit (.int .u8 21), .lit (.int .u8 52), .lit (.int .u8 32), .lit (.int .u8 23), .lit (.int .u8 11), .lit (.int .u8 54), .lit (.int .u8 26), .lit (.int .u8 40), .lit (.int .u8 15), .lit (.int .u8 34), .lit (.int .u8 20), .lit (.int .u8 31), .lit (.int .u8 10), .lit (.int .u8 25), .lit (.int .u8 14), .lit (.int .u8 19), .lit (.int .u8 9), .lit (.int .u8 13), .lit (.int .u8 8), .lit (.int .u8 7), .lit (.int .u8 6)]

/-- 'affidavitlaw02.PrimeRight': WHATEVER THE INPUT: true; the input reads as it did. -/
def primeRightSpec : ChangeSpec := { name := "primeRight", fn := fun _ => fun
  | [d1, d2] => { results := [.lit (.bool true)], args := [d1, d2] }
  | _ => none }
def primeRightRow : OpenClaim := { program := "ytncidpckokclbaadoor", sum := "a44d28568bfa97aeab8ce1ff20895a1f0e4fa4b9b9031fce78e0a539fed05787", func := "affidavit/affidavitlaw02.PrimeRight", spec := "primeRight", unfollowed := true, recurses := true, named := ["math/bits.deBruijn64tab", "math/bits.divideError", "math/bits.overflowError"], apart := false, laid := [("math/bits.deBruijn64tab", laid_math_bits_deBruijn64tab)] }
def PrimeRightSaid : Prop := primeRightRow.holds Tryd.pinned (OpenSpec.ofChange primeRightSpec)

/-- ITS FALSE NEIGHBOUR: 'it returns false'. Refute it at one input. -/
def primeRightWrong : ChangeSpec := { name := "primeRight", fn := fun _ => fun
  | [d1, d2] => { results := [.lit (.bool false)], args := [d1, d2] }
  | _ => none }
def PrimeRightWrongFalsely : Prop := primeRightRow.holds Tryd.pinned (OpenSpec.ofChange primeRightWrong)

/-- 'affidavitlaw02.PrimeParts': WHATEVER THE INPUT: true; the input reads as it did. -/
def primePartsSpec : ChangeSpec := { name := "primeParts", fn := fun _ => fun
  | [d1, d2] => { results := [.lit (.bool true)], args := [d1, d2] }
  | _ => none }
def primePartsRow : OpenClaim := { program := "ytncidpckokclbaadoor", sum := "a44d28568bfa97aeab8ce1ff20895a1f0e4fa4b9b9031fce78e0a539fed05787", func := "affidavit/affidavitlaw02.PrimeParts", spec := "primeParts", unfollowed := true, recurses := true, named := ["math/bits.deBruijn64tab", "math/bits.divideError", "math/bits.overflowError"], apart := false, laid := [("math/bits.deBruijn64tab", laid_math_bits_deBruijn64tab)] }
def PrimePartsSaid : Prop := primePartsRow.holds Tryd.pinned (OpenSpec.ofChange primePartsSpec)

/-- ITS FALSE NEIGHBOUR: 'it returns false'. Refute it at one input. -/
def primePartsWrong : ChangeSpec := { name := "primeParts", fn := fun _ => fun
  | [d1, d2] => { results := [.lit (.bool false)], args := [d1, d2] }
  | _ => none }
def PrimePartsWrongFalsely : Prop := primePartsRow.holds Tryd.pinned (OpenSpec.ofChange primePartsWrong)

/-- 'affidavitlaw02.PrimeBuilds': WHATEVER THE INPUT: true; the input reads as it did. -/
def primeBuildsSpec : ChangeSpec := { name := "primeBuilds", fn := fun _ => fun
  | [d] => { results := [.lit (.bool true)], args := [d] }
  | _ => none }
def primeBuildsRow : OpenClaim := { program := "ytncidpckokclbaadoor", sum := "a44d28568bfa97aeab8ce1ff20895a1f0e4fa4b9b9031fce78e0a539fed05787", func := "affidavit/affidavitlaw02.PrimeBuilds", spec := "primeBuilds", unfollowed := true, recurses := true, named := ["math/bits.deBruijn64tab", "math/bits.divideError", "math/bits.overflowError"], apart := false, laid := [("math/bits.deBruijn64tab", laid_math_bits_deBruijn64tab)] }
def PrimeBuildsSaid : Prop := primeBuildsRow.holds Tryd.pinned (OpenSpec.ofChange primeBuildsSpec)

/-- ITS FALSE NEIGHBOUR: 'it returns false'. Refute it at one input. -/
def primeBuildsWrong : ChangeSpec := { name := "primeBuilds", fn := fun _ => fun
  | [d] => { results := [.lit (.bool false)], args := [d] }
  | _ => none }
def PrimeBuildsWrongFalsely : Prop := primeBuildsRow.holds Tryd.pinned (OpenSpec.ofChange primeBuildsWrong)

/-- 'affidavitlaw02.PrimeShown': WHATEVER THE INPUT: true; the input reads as it did. -/
def primeShownSpec : ChangeSpec := { name := "primeShown", fn := fun _ => fun
  | [d1, d2] => { results := [.lit (.bool true)], args := [d1, d2] }
  | _ => none }
def primeShownRow : OpenClaim := { program := "ytncidpckokclbaadoor", sum := "a44d28568bfa97aeab8ce1ff20895a1f0e4fa4b9b9031fce78e0a539fed05787", func := "affidavit/affidavitlaw02.PrimeShown", spec := "primeShown", unfollowed := true, recurses := true, named := ["math/bits.deBruijn64tab", "math/bits.divideError", "math/bits.overflowError"], apart := false, laid := [("math/bits.deBruijn64tab", laid_math_bits_deBruijn64tab)] }
def PrimeShownSaid : Prop := primeShownRow.holds Tryd.pinned (OpenSpec.ofChange primeShownSpec)

/-- ITS FALSE NEIGHBOUR: 'it returns false'. Refute it at one input. -/
def primeShownWrong : ChangeSpec := { name := "primeShown", fn := fun _ => fun
  | [d1, d2] => { results := [.lit (.bool false)], args := [d1, d2] }
  | _ => none }
def PrimeShownWrongFalsely : Prop := primeShownRow.holds Tryd.pinned (OpenSpec.ofChange primeShownWrong)

/-- 'affidavitlaw02.PrimePowers': WHATEVER THE INPUT: true; the input reads as it did. -/
def primePowersSpec : ChangeSpec := { name := "primePowers", fn := fun _ => fun
  | [d] => { results := [.lit (.bool true)], args := [d] }
  | _ => none }
def primePowersRow : OpenClaim := { program := "ytncidpckokclbaadoor", sum := "a44d28568bfa97aeab8ce1ff20895a1f0e4fa4b9b9031fce78e0a539fed05787", func := "affidavit/affidavitlaw02.PrimePowers", spec := "primePowers", unfollowed := true, recurses := true, named := ["math/bits.deBruijn64tab", "math/bits.divideError", "math/bits.overflowError"], apart := false, laid := [("math/bits.deBruijn64tab", laid_math_bits_deBruijn64tab)] }
def PrimePowersSaid : Prop := primePowersRow.holds Tryd.pinned (OpenSpec.ofChange primePowersSpec)

/-- ITS FALSE NEIGHBOUR: 'it returns false'. Refute it at one input. -/
def primePowersWrong : ChangeSpec := { name := "primePowers", fn := fun _ => fun
  | [d] => { results := [.lit (.bool false)], args := [d] }
  | _ => none }
def PrimePowersWrongFalsely : Prop := primePowersRow.holds Tryd.pinned (OpenSpec.ofChange primePowersWrong)

/-- 'affidavitlaw02.PrimeCut': WHATEVER THE INPUT: true; the input reads as it did. -/
def primeCutSpec : ChangeSpec := { name := "primeCut", fn := fun _ => fun
  | [d1, d2] => { results := [.lit (.bool true)], args := [d1, d2] }
  | _ => none }
def primeCutRow : OpenClaim := { program := "ytncidpckokclbaadoor", sum := "a44d28568bfa97aeab8ce1ff20895a1f0e4fa4b9b9031fce78e0a539fed05787", func := "affidavit/affidavitlaw02.PrimeCut", spec := "primeCut", unfollowed := true, recurses := true, named := ["math/bits.deBruijn64tab", "math/bits.divideError", "math/bits.overflowError"], apart := false, laid := [("math/bits.deBruijn64tab", laid_math_bits_deBruijn64tab)] }
def PrimeCutSaid : Prop := primeCutRow.holds Tryd.pinned (OpenSpec.ofChange primeCutSpec)

/-- ITS FALSE NEIGHBOUR: 'it returns false'. Refute it at one input. -/
def primeCutWrong : ChangeSpec := { name := "primeCut", fn := fun _ => fun
  | [d1, d2] => { results := [.lit (.bool false)], args := [d1, d2] }
  | _ => none }
def PrimeCutWrongFalsely : Prop := primeCutRow.holds Tryd.pinned (OpenSpec.ofChange primeCutWrong)

/- THE SECOND FORM. 'bulk': how many values and letters a reading holds, each counted each time it is reached (what is shared counts as often as it is met; a slice's spare places count too). A statement '..UptoSaid' is the law's where the arguments, and the package variables that the reading takes, are together of bulk at most 1048576: NARROWER than '..Said'. Prove '..Said' where nothing that the law and all that it calls make is longer than what came in: it says more and counts as full. Else prove '..UptoSaid'. A law counts once. -/
mutual
def uptoBulk {H : Type} : DataW H → Nat
  | .lit (.string bytes) => bytes.length + 1
  | .lit _ => 1
  | .nil => 1
  | .ptr d => uptoBulk d + 1
  | .slice elems spare => uptoBulkAll elems + uptoBulkAll spare + 1
  | .agg parts => uptoBulkAll parts + 1
  | .iface _ d => uptoBulk d + 1
  | .map entries => uptoBulkEntries entries + 1
  | .held _ => 1
def uptoBulkAll {H : Type} : List (DataW H) → Nat
  | [] => 0
  | d :: r => uptoBulk d + uptoBulkAll r
def uptoBulkEntries {H : Type} : List (Lit × DataW H) → Nat
  | [] => 0
  | x :: r => uptoBulkEntry x + uptoBulkEntries r
def uptoBulkEntry {H : Type} : Lit × DataW H → Nat
  | (.string bytes, d) => bytes.length + uptoBulk d + 1
  | (_, d) => uptoBulk d + 1
 end
def uptoSmall : (H : Type) → List (DataW H) → Bool := fun _ ds => decide (uptoBulkAll ds ≤ 1048576)
def OpenSpec.upto (s : _root_.Go.ChangeSpec) : _root_.Go.OpenSpec := { _root_.Go.OpenSpec.ofChange s with cond := some uptoSmall }

/-- 'affidavitlaw02.PrimeRight', WHERE WHAT IT READS IS OF BULK AT MOST 1048576: true; the input reads as it did. -/
def primeRightUptoRow : OpenClaim := { program := "ytncidpckokclbaadoor", sum := "a44d28568bfa97aeab8ce1ff20895a1f0e4fa4b9b9031fce78e0a539fed05787", func := "affidavit/affidavitlaw02.PrimeRight", spec := "primeRight", unfollowed := true, recurses := true, named := ["math/bits.deBruijn64tab", "math/bits.divideError", "math/bits.overflowError"], apart := false, laid := [("math/bits.deBruijn64tab", laid_math_bits_deBruijn64tab)], narrowed := true }
def PrimeRightUptoSaid : Prop := primeRightUptoRow.holds Tryd.pinned (OpenSpec.upto primeRightSpec)

/-- 'affidavitlaw02.PrimeParts', WHERE WHAT IT READS IS OF BULK AT MOST 1048576: true; the input reads as it did. -/
def primePartsUptoRow : OpenClaim := { program := "ytncidpckokclbaadoor", sum := "a44d28568bfa97aeab8ce1ff20895a1f0e4fa4b9b9031fce78e0a539fed05787", func := "affidavit/affidavitlaw02.PrimeParts", spec := "primeParts", unfollowed := true, recurses := true, named := ["math/bits.deBruijn64tab", "math/bits.divideError", "math/bits.overflowError"], apart := false, laid := [("math/bits.deBruijn64tab", laid_math_bits_deBruijn64tab)], narrowed := true }
def PrimePartsUptoSaid : Prop := primePartsUptoRow.holds Tryd.pinned (OpenSpec.upto primePartsSpec)

/-- 'affidavitlaw02.PrimeBuilds', WHERE WHAT IT READS IS OF BULK AT MOST 1048576: true; the input reads as it did. -/
def primeBuildsUptoRow : OpenClaim := { program := "ytncidpckokclbaadoor", sum := "a44d28568bfa97aeab8ce1ff20895a1f0e4fa4b9b9031fce78e0a539fed05787", func := "affidavit/affidavitlaw02.PrimeBuilds", spec := "primeBuilds", unfollowed := true, recurses := true, named := ["math/bits.deBruijn64tab", "math/bits.divideError", "math/bits.overflowError"], apart := false, laid := [("math/bits.deBruijn64tab", laid_math_bits_deBruijn64tab)], narrowed := true }
def PrimeBuildsUptoSaid : Prop := primeBuildsUptoRow.holds Tryd.pinned (OpenSpec.upto primeBuildsSpec)

/-- 'affidavitlaw02.PrimeShown', WHERE WHAT IT READS IS OF BULK AT MOST 1048576: true; the input reads as it did. -/
def primeShownUptoRow : OpenClaim := { program := "ytncidpckokclbaadoor", sum := "a44d28568bfa97aeab8ce1ff20895a1f0e4fa4b9b9031fce78e0a539fed05787", func := "affidavit/affidavitlaw02.PrimeShown", spec := "primeShown", unfollowed := true, recurses := true, named := ["math/bits.deBruijn64tab", "math/bits.divideError", "math/bits.overflowError"], apart := false, laid := [("math/bits.deBruijn64tab", laid_math_bits_deBruijn64tab)], narrowed := true }
def PrimeShownUptoSaid : Prop := primeShownUptoRow.holds Tryd.pinned (OpenSpec.upto primeShownSpec)

/-- 'affidavitlaw02.PrimePowers', WHERE WHAT IT READS IS OF BULK AT MOST 1048576: true; the input reads as it did. -/
def primePowersUptoRow : OpenClaim := { program := "ytncidpckokclbaadoor", sum := "a44d28568bfa97aeab8ce1ff20895a1f0e4fa4b9b9031fce78e0a539fed05787", func := "affidavit/affidavitlaw02.PrimePowers", spec := "primePowers", unfollowed := true, recurses := true, named := ["math/bits.deBruijn64tab", "math/bits.divideError", "math/bits.overflowError"], apart := false, laid := [("math/bits.deBruijn64tab", laid_math_bits_deBruijn64tab)], narrowed := true }
def PrimePowersUptoSaid : Prop := primePowersUptoRow.holds Tryd.pinned (OpenSpec.upto primePowersSpec)

/-- 'affidavitlaw02.PrimeCut', WHERE WHAT IT READS IS OF BULK AT MOST 1048576: true; the input reads as it did. -/
def primeCutUptoRow : OpenClaim := { program := "ytncidpckokclbaadoor", sum := "a44d28568bfa97aeab8ce1ff20895a1f0e4fa4b9b9031fce78e0a539fed05787", func := "affidavit/affidavitlaw02.PrimeCut", spec := "primeCut", unfollowed := true, recurses := true, named := ["math/bits.deBruijn64tab", "math/bits.divideError", "math/bits.overflowError"], apart := false, laid := [("math/bits.deBruijn64tab", laid_math_bits_deBruijn64tab)], narrowed := true }
def PrimeCutUptoSaid : Prop := primeCutUptoRow.holds Tryd.pinned (OpenSpec.upto primeCutSpec)

end Rows
end Go.Proofs.YtncidpckokclbaaDoor
