/-
  DERIVED. GIVEN WITH THE SEED: THE CARDS: each row of YthomeenmcajmdaaGreatDoorRows.lean that lists a variable, with what it lists TIED to the program's text (the seventh form; the later family's looks); each row that meets fmt, with fmt's text TOLD by the authors' own Lean function (tested against real Go, not proved from fmt's source: count such statements apart). THE CARD IS WHAT COUNTS. Prove the row's statement (the work); the ties are given (YthomeenmcajmdaaGreatDoorTie.lean); close each card by the builder's one call (the guide's Derived/Test/ToyasCard.lean, 'card_holds'). Laid BY PROGRAM, IN A SANDBOX (cutbox-door.mjs). By AI agents, Wed Nov 11 2026. No macro, syntax, notation, axiom, sorry.
-/
import Derived.Test.YthomeenmcajmdaaGreatDoorRows
import GoSem.ClaimSeven
namespace Go.Proofs.YthomeenmcajmdaaGreatDoor
namespace Rows

/-- THE TIED CARD OF 'affidavitlaw16.TaskRight'. -/
def taskRightCard : Claim7 := { stood := { row := taskRightRow, standIns := [], harness := (true, "fea301078b059fa4f0d1b9c3cc5af8b5e3fa065af6fa20ae1fb203b62e77630f"), looks := false }, kinds := [], alts := [], laidByText := true, laidKinds := [.data], laidTests := true, laidLooks := .later }
def TaskRightCardSaid : Prop := Claim7.holds Tryz.pinned (.plain (OpenSpec.ofChange taskRightSpec)) taskRightCard

/-- THE TIED CARD OF 'affidavitlaw16.TaskPlain'. -/
def taskPlainCard : Claim7 := { stood := { row := taskPlainRow, standIns := [], harness := (true, "fea301078b059fa4f0d1b9c3cc5af8b5e3fa065af6fa20ae1fb203b62e77630f"), looks := false }, kinds := [], alts := [], laidByText := true, laidKinds := [.data], laidTests := true, laidLooks := .later }
def TaskPlainCardSaid : Prop := Claim7.holds Tryz.pinned (.plain (OpenSpec.ofChange taskPlainSpec)) taskPlainCard

/-- THE TIED CARD OF 'affidavitlaw16.TaskTrue'. -/
def taskTrueCard : Claim7 := { stood := { row := taskTrueRow, standIns := [], harness := (true, "fea301078b059fa4f0d1b9c3cc5af8b5e3fa065af6fa20ae1fb203b62e77630f"), looks := false }, kinds := [], alts := [], laidByText := true, laidKinds := [.data], laidTests := true, laidLooks := .later }
def TaskTrueCardSaid : Prop := Claim7.holds Tryz.pinned (.plain (OpenSpec.ofChange taskTrueSpec)) taskTrueCard

/-- THE TIED CARD OF 'affidavitlaw16.TaskScaled'. -/
def taskScaledCard : Claim7 := { stood := { row := taskScaledRow, standIns := [], harness := (true, "fea301078b059fa4f0d1b9c3cc5af8b5e3fa065af6fa20ae1fb203b62e77630f"), looks := false }, kinds := [], alts := [], laidByText := true, laidKinds := [.data], laidTests := true, laidLooks := .later }
def TaskScaledCardSaid : Prop := Claim7.holds Tryz.pinned (.plain (OpenSpec.ofChange taskScaledSpec)) taskScaledCard

/-- THE SECOND FORM's CARD OF 'affidavitlaw16.TaskRight'. -/
def taskRightUptoCard : Claim7 := { stood := { row := taskRightUptoRow, standIns := [], harness := (true, "fea301078b059fa4f0d1b9c3cc5af8b5e3fa065af6fa20ae1fb203b62e77630f"), looks := false }, kinds := [], alts := [], laidByText := true, laidKinds := [.data], laidTests := true, laidLooks := .later }
def TaskRightUptoCardSaid : Prop := Claim7.holds Tryz.pinned (.plain (OpenSpec.upto taskRightSpec)) taskRightUptoCard

/-- THE SECOND FORM's CARD OF 'affidavitlaw16.TaskPlain'. -/
def taskPlainUptoCard : Claim7 := { stood := { row := taskPlainUptoRow, standIns := [], harness := (true, "fea301078b059fa4f0d1b9c3cc5af8b5e3fa065af6fa20ae1fb203b62e77630f"), looks := false }, kinds := [], alts := [], laidByText := true, laidKinds := [.data], laidTests := true, laidLooks := .later }
def TaskPlainUptoCardSaid : Prop := Claim7.holds Tryz.pinned (.plain (OpenSpec.upto taskPlainSpec)) taskPlainUptoCard

/-- THE SECOND FORM's CARD OF 'affidavitlaw16.TaskTrue'. -/
def taskTrueUptoCard : Claim7 := { stood := { row := taskTrueUptoRow, standIns := [], harness := (true, "fea301078b059fa4f0d1b9c3cc5af8b5e3fa065af6fa20ae1fb203b62e77630f"), looks := false }, kinds := [], alts := [], laidByText := true, laidKinds := [.data], laidTests := true, laidLooks := .later }
def TaskTrueUptoCardSaid : Prop := Claim7.holds Tryz.pinned (.plain (OpenSpec.upto taskTrueSpec)) taskTrueUptoCard

/-- THE SECOND FORM's CARD OF 'affidavitlaw16.TaskScaled'. -/
def taskScaledUptoCard : Claim7 := { stood := { row := taskScaledUptoRow, standIns := [], harness := (true, "fea301078b059fa4f0d1b9c3cc5af8b5e3fa065af6fa20ae1fb203b62e77630f"), looks := false }, kinds := [], alts := [], laidByText := true, laidKinds := [.data], laidTests := true, laidLooks := .later }
def TaskScaledUptoCardSaid : Prop := Claim7.holds Tryz.pinned (.plain (OpenSpec.upto taskScaledSpec)) taskScaledUptoCard
end Rows
end Go.Proofs.YthomeenmcajmdaaGreatDoor
