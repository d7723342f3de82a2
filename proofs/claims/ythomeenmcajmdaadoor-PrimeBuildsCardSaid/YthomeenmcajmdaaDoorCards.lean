/-
  DERIVED. GIVEN WITH THE SEED: THE CARDS: each row of YthomeenmcajmdaaDoorRows.lean that lists a variable, with what it lists TIED to the program's text (the seventh form; the later family's looks); each row that meets fmt, with fmt's text TOLD by the authors' own Lean function (tested against real Go, not proved from fmt's source: count such statements apart). THE CARD IS WHAT COUNTS. Prove the row's statement (the work); the ties are given (YthomeenmcajmdaaDoorTie.lean); close each card by the builder's one call (the guide's Derived/Test/ToyasCard.lean, 'card_holds'). Laid BY PROGRAM, IN A SANDBOX (cutbox-door.mjs). By AI agents, Wed Nov 11 2026. No macro, syntax, notation, axiom, sorry.
-/
import Derived.Test.YthomeenmcajmdaaDoorRows
import GoSem.ClaimSeven
namespace Go.Proofs.YthomeenmcajmdaaDoor
namespace Rows

/-- THE TIED CARD OF 'affidavitlaw02.PrimeBuilds'. -/
def primeBuildsCard : Claim7 := { stood := { row := primeBuildsRow, standIns := [], harness := (true, "25d2fd336d8f49e13c6d4cc38aa2972a123ac21c96947af8c0f45fbce938849b"), looks := false }, kinds := [], alts := [], laidByText := true, laidKinds := [.data], laidTests := true, laidLooks := .later }
def PrimeBuildsCardSaid : Prop := Claim7.holds Tryd.pinned (.plain (OpenSpec.ofChange primeBuildsSpec)) primeBuildsCard

/-- THE SECOND FORM's CARD OF 'affidavitlaw02.PrimeBuilds'. -/
def primeBuildsUptoCard : Claim7 := { stood := { row := primeBuildsUptoRow, standIns := [], harness := (true, "25d2fd336d8f49e13c6d4cc38aa2972a123ac21c96947af8c0f45fbce938849b"), looks := false }, kinds := [], alts := [], laidByText := true, laidKinds := [.data], laidTests := true, laidLooks := .later }
def PrimeBuildsUptoCardSaid : Prop := Claim7.holds Tryd.pinned (.plain (OpenSpec.upto primeBuildsSpec)) primeBuildsUptoCard
end Rows
end Go.Proofs.YthomeenmcajmdaaDoor
