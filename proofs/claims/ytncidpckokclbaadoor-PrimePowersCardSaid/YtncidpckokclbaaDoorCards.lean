/-
  DERIVED. GIVEN WITH THE SEED: THE CARDS: each row of YtncidpckokclbaaDoorRows.lean that lists a variable, with what it lists TIED to the program's text (the seventh form; the later family's looks); each row that meets fmt, with fmt's text TOLD by the authors' own Lean function (tested against real Go, not proved from fmt's source: count such statements apart). THE CARD IS WHAT COUNTS. Prove the row's statement (the work); the ties are given (YtncidpckokclbaaDoorTie.lean); close each card by the builder's one call (the guide's Derived/Test/ToyasCard.lean, 'card_holds'). Laid BY PROGRAM, IN A SANDBOX (cutbox-door.mjs). By AI agents, Wed Nov 11 2026. No macro, syntax, notation, axiom, sorry.
-/
import Derived.Test.YtncidpckokclbaaDoorRows
import GoSem.ClaimSeven
namespace Go.Proofs.YtncidpckokclbaaDoor
namespace Rows

/-- THE TIED CARD OF 'affidavitlaw02.PrimeRight'. -/
def primeRightCard : Claim7 := { stood := { row := primeRightRow, standIns := [], harness := (true, "f73266c2c1af8d300829a7bd8259175065c117d331f1eb149c3c9e6d078dd8fe"), looks := false }, kinds := [], alts := [], laidByText := true, laidKinds := [.data], laidTests := true, laidLooks := .later }
def PrimeRightCardSaid : Prop := Claim7.holds Tryd.pinned (.plain (OpenSpec.ofChange primeRightSpec)) primeRightCard

/-- THE TIED CARD OF 'affidavitlaw02.PrimeParts'. -/
def primePartsCard : Claim7 := { stood := { row := primePartsRow, standIns := [], harness := (true, "f73266c2c1af8d300829a7bd8259175065c117d331f1eb149c3c9e6d078dd8fe"), looks := false }, kinds := [], alts := [], laidByText := true, laidKinds := [.data], laidTests := true, laidLooks := .later }
def PrimePartsCardSaid : Prop := Claim7.holds Tryd.pinned (.plain (OpenSpec.ofChange primePartsSpec)) primePartsCard

/-- THE TIED CARD OF 'affidavitlaw02.PrimeBuilds'. -/
def primeBuildsCard : Claim7 := { stood := { row := primeBuildsRow, standIns := [], harness := (true, "f73266c2c1af8d300829a7bd8259175065c117d331f1eb149c3c9e6d078dd8fe"), looks := false }, kinds := [], alts := [], laidByText := true, laidKinds := [.data], laidTests := true, laidLooks := .later }
def PrimeBuildsCardSaid : Prop := Claim7.holds Tryd.pinned (.plain (OpenSpec.ofChange primeBuildsSpec)) primeBuildsCard

/-- THE TIED CARD OF 'affidavitlaw02.PrimeShown'. -/
def primeShownCard : Claim7 := { stood := { row := primeShownRow, standIns := [], harness := (true, "f73266c2c1af8d300829a7bd8259175065c117d331f1eb149c3c9e6d078dd8fe"), looks := false }, kinds := [], alts := [], laidByText := true, laidKinds := [.data], laidTests := true, laidLooks := .later }
def PrimeShownCardSaid : Prop := Claim7.holds Tryd.pinned (.plain (OpenSpec.ofChange primeShownSpec)) primeShownCard

/-- THE TIED CARD OF 'affidavitlaw02.PrimePowers'. -/
def primePowersCard : Claim7 := { stood := { row := primePowersRow, standIns := [], harness := (true, "f73266c2c1af8d300829a7bd8259175065c117d331f1eb149c3c9e6d078dd8fe"), looks := false }, kinds := [], alts := [], laidByText := true, laidKinds := [.data], laidTests := true, laidLooks := .later }
def PrimePowersCardSaid : Prop := Claim7.holds Tryd.pinned (.plain (OpenSpec.ofChange primePowersSpec)) primePowersCard

/-- THE TIED CARD OF 'affidavitlaw02.PrimeCut'. -/
def primeCutCard : Claim7 := { stood := { row := primeCutRow, standIns := [], harness := (true, "f73266c2c1af8d300829a7bd8259175065c117d331f1eb149c3c9e6d078dd8fe"), looks := false }, kinds := [], alts := [], laidByText := true, laidKinds := [.data], laidTests := true, laidLooks := .later }
def PrimeCutCardSaid : Prop := Claim7.holds Tryd.pinned (.plain (OpenSpec.ofChange primeCutSpec)) primeCutCard

/-- THE SECOND FORM's CARD OF 'affidavitlaw02.PrimeRight'. -/
def primeRightUptoCard : Claim7 := { stood := { row := primeRightUptoRow, standIns := [], harness := (true, "f73266c2c1af8d300829a7bd8259175065c117d331f1eb149c3c9e6d078dd8fe"), looks := false }, kinds := [], alts := [], laidByText := true, laidKinds := [.data], laidTests := true, laidLooks := .later }
def PrimeRightUptoCardSaid : Prop := Claim7.holds Tryd.pinned (.plain (OpenSpec.upto primeRightSpec)) primeRightUptoCard

/-- THE SECOND FORM's CARD OF 'affidavitlaw02.PrimeParts'. -/
def primePartsUptoCard : Claim7 := { stood := { row := primePartsUptoRow, standIns := [], harness := (true, "f73266c2c1af8d300829a7bd8259175065c117d331f1eb149c3c9e6d078dd8fe"), looks := false }, kinds := [], alts := [], laidByText := true, laidKinds := [.data], laidTests := true, laidLooks := .later }
def PrimePartsUptoCardSaid : Prop := Claim7.holds Tryd.pinned (.plain (OpenSpec.upto primePartsSpec)) primePartsUptoCard

/-- THE SECOND FORM's CARD OF 'affidavitlaw02.PrimeBuilds'. -/
def primeBuildsUptoCard : Claim7 := { stood := { row := primeBuildsUptoRow, standIns := [], harness := (true, "f73266c2c1af8d300829a7bd8259175065c117d331f1eb149c3c9e6d078dd8fe"), looks := false }, kinds := [], alts := [], laidByText := true, laidKinds := [.data], laidTests := true, laidLooks := .later }
def PrimeBuildsUptoCardSaid : Prop := Claim7.holds Tryd.pinned (.plain (OpenSpec.upto primeBuildsSpec)) primeBuildsUptoCard

/-- THE SECOND FORM's CARD OF 'affidavitlaw02.PrimeShown'. -/
def primeShownUptoCard : Claim7 := { stood := { row := primeShownUptoRow, standIns := [], harness := (true, "f73266c2c1af8d300829a7bd8259175065c117d331f1eb149c3c9e6d078dd8fe"), looks := false }, kinds := [], alts := [], laidByText := true, laidKinds := [.data], laidTests := true, laidLooks := .later }
def PrimeShownUptoCardSaid : Prop := Claim7.holds Tryd.pinned (.plain (OpenSpec.upto primeShownSpec)) primeShownUptoCard

/-- THE SECOND FORM's CARD OF 'affidavitlaw02.PrimePowers'. -/
def primePowersUptoCard : Claim7 := { stood := { row := primePowersUptoRow, standIns := [], harness := (true, "f73266c2c1af8d300829a7bd8259175065c117d331f1eb149c3c9e6d078dd8fe"), looks := false }, kinds := [], alts := [], laidByText := true, laidKinds := [.data], laidTests := true, laidLooks := .later }
def PrimePowersUptoCardSaid : Prop := Claim7.holds Tryd.pinned (.plain (OpenSpec.upto primePowersSpec)) primePowersUptoCard

/-- THE SECOND FORM's CARD OF 'affidavitlaw02.PrimeCut'. -/
def primeCutUptoCard : Claim7 := { stood := { row := primeCutUptoRow, standIns := [], harness := (true, "f73266c2c1af8d300829a7bd8259175065c117d331f1eb149c3c9e6d078dd8fe"), looks := false }, kinds := [], alts := [], laidByText := true, laidKinds := [.data], laidTests := true, laidLooks := .later }
def PrimeCutUptoCardSaid : Prop := Claim7.holds Tryd.pinned (.plain (OpenSpec.upto primeCutSpec)) primeCutUptoCard
end Rows
end Go.Proofs.YtncidpckokclbaaDoor
