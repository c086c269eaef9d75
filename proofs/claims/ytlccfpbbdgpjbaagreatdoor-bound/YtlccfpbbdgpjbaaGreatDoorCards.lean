/-
  DERIVED. GIVEN WITH THE SEED: THE CARDS: each row of YtlccfpbbdgpjbaaGreatDoorRows.lean that lists a variable, with what it lists TIED to the program's text (the seventh form; the later family's looks); each row that meets fmt, with fmt's text TOLD by the authors' own Lean function (tested against real Go, not proved from fmt's source: count such statements apart). THE CARD IS WHAT COUNTS. Prove the row's statement (the work); the ties are given (YtlccfpbbdgpjbaaGreatDoorTie.lean); close each card by the builder's one call (the guide's Derived/Test/ToyasCard.lean, 'card_holds'). Laid BY PROGRAM, IN A SANDBOX (cutbox-door.mjs). By AI agents, Wed Nov 11 2026. No macro, syntax, notation, axiom, sorry.
-/
import Derived.Test.YtlccfpbbdgpjbaaGreatDoorRows
import GoSem.ClaimSeven
namespace Go.Proofs.YtlccfpbbdgpjbaaGreatDoor
namespace Rows

/-- THE TIED CARD OF 'courierslaw.Makes'. -/
def makesCard : Claim7 := { stood := { row := makesRow, standIns := [], harness := (true, "9a323fb0c47f7c25839087546f5f2f67718d2101a29a749a38c5d80d06110f2c"), looks := true }, kinds := [], alts := [], laidByText := true, laidKinds := [.handle], laidTests := true, laidLooks := .later }
def MakesCardSaid : Prop := Claim7.holds Tryz.pinned (.plain (OpenSpec.ofChange makesSpec)) makesCard

/-- THE TIED CARD OF 'courierslaw.Tries'. -/
def triesCard : Claim7 := { stood := { row := triesRow, standIns := [], harness := (true, "9a323fb0c47f7c25839087546f5f2f67718d2101a29a749a38c5d80d06110f2c"), looks := true }, kinds := [], alts := [], laidByText := true, laidKinds := [.handle], laidTests := true, laidLooks := .later }
def TriesCardSaid : Prop := Claim7.holds Tryz.pinned (.plain (OpenSpec.ofChange triesSpec)) triesCard

/-- THE TIED CARD OF 'courierskeep.Through'. -/
def throughCard : Claim7 := { stood := { row := throughRow, standIns := [], harness := (true, "9a323fb0c47f7c25839087546f5f2f67718d2101a29a749a38c5d80d06110f2c"), looks := true }, kinds := [], alts := [], laidByText := true, laidKinds := [.handle], laidTests := true, laidLooks := .later }
def ThroughCardSaid : Prop := Claim7.holds Tryz.pinned (.plain (OpenSpec.ofChange throughSpec)) throughCard

/-- THE TIED CARD OF 'courierskeep.Again'. -/
def againCard : Claim7 := { stood := { row := againRow, standIns := [], harness := (true, "9a323fb0c47f7c25839087546f5f2f67718d2101a29a749a38c5d80d06110f2c"), looks := true }, kinds := [], alts := [], laidByText := true, laidKinds := [.handle], laidTests := true, laidLooks := .later }
def AgainCardSaid : Prop := Claim7.holds Tryz.pinned (.plain (OpenSpec.ofChange againSpec)) againCard

/-- THE TIED CARD OF 'courierslaw.All'. -/
def allCard : Claim7 := { stood := { row := allRow, standIns := [], harness := (true, "9a323fb0c47f7c25839087546f5f2f67718d2101a29a749a38c5d80d06110f2c"), looks := true }, kinds := [], alts := [], laidByText := true, laidKinds := [.handle], laidTests := true, laidLooks := .later }
def AllCardSaid : Prop := Claim7.holds Tryz.pinned (.plain (OpenSpec.ofChange allSpec)) allCard

/-- THE TIED CARD OF 'courierskeep.Sound'. -/
def soundCard : Claim7 := { stood := { row := soundRow, standIns := [], harness := (true, "9a323fb0c47f7c25839087546f5f2f67718d2101a29a749a38c5d80d06110f2c"), looks := true }, kinds := [], alts := [], laidByText := true, laidKinds := [.handle], laidTests := true, laidLooks := .later }
def SoundCardSaid : Prop := Claim7.holds Tryz.pinned (.plain (OpenSpec.ofChange soundSpec)) soundCard

/-- THE TIED CARD OF 'courierskeep.Bound'. -/
def boundCard : Claim7 := { stood := { row := boundRow, standIns := [], harness := (true, "9a323fb0c47f7c25839087546f5f2f67718d2101a29a749a38c5d80d06110f2c"), looks := true }, kinds := [], alts := [], laidByText := true, laidKinds := [.handle], laidTests := true, laidLooks := .later }
def BoundCardSaid : Prop := Claim7.holds Tryz.pinned (.plain (OpenSpec.ofChange boundSpec)) boundCard

/-- THE TIED CARD OF 'courierskeep.Ends'. -/
def endsCard : Claim7 := { stood := { row := endsRow, standIns := [], harness := (true, "9a323fb0c47f7c25839087546f5f2f67718d2101a29a749a38c5d80d06110f2c"), looks := true }, kinds := [], alts := [], laidByText := true, laidKinds := [.handle], laidTests := true, laidLooks := .later }
def EndsCardSaid : Prop := Claim7.holds Tryz.pinned (.plain (OpenSpec.ofChange endsSpec)) endsCard

/-- THE TIED CARD OF 'courierskeep.Beside'. -/
def besideCard : Claim7 := { stood := { row := besideRow, standIns := [], harness := (true, "9a323fb0c47f7c25839087546f5f2f67718d2101a29a749a38c5d80d06110f2c"), looks := true }, kinds := [], alts := [], laidByText := true, laidKinds := [.handle], laidTests := true, laidLooks := .later }
def BesideCardSaid : Prop := Claim7.holds Tryz.pinned (.plain (OpenSpec.ofChange besideSpec)) besideCard

/-- THE SECOND FORM's CARD OF 'courierslaw.Makes'. -/
def makesUptoCard : Claim7 := { stood := { row := makesUptoRow, standIns := [], harness := (true, "9a323fb0c47f7c25839087546f5f2f67718d2101a29a749a38c5d80d06110f2c"), looks := true }, kinds := [], alts := [], laidByText := true, laidKinds := [.handle], laidTests := true, laidLooks := .later }
def MakesUptoCardSaid : Prop := Claim7.holds Tryz.pinned (.plain (OpenSpec.upto makesSpec)) makesUptoCard

/-- THE SECOND FORM's CARD OF 'courierslaw.Tries'. -/
def triesUptoCard : Claim7 := { stood := { row := triesUptoRow, standIns := [], harness := (true, "9a323fb0c47f7c25839087546f5f2f67718d2101a29a749a38c5d80d06110f2c"), looks := true }, kinds := [], alts := [], laidByText := true, laidKinds := [.handle], laidTests := true, laidLooks := .later }
def TriesUptoCardSaid : Prop := Claim7.holds Tryz.pinned (.plain (OpenSpec.upto triesSpec)) triesUptoCard

/-- THE SECOND FORM's CARD OF 'courierskeep.Through'. -/
def throughUptoCard : Claim7 := { stood := { row := throughUptoRow, standIns := [], harness := (true, "9a323fb0c47f7c25839087546f5f2f67718d2101a29a749a38c5d80d06110f2c"), looks := true }, kinds := [], alts := [], laidByText := true, laidKinds := [.handle], laidTests := true, laidLooks := .later }
def ThroughUptoCardSaid : Prop := Claim7.holds Tryz.pinned (.plain (OpenSpec.upto throughSpec)) throughUptoCard

/-- THE SECOND FORM's CARD OF 'courierskeep.Again'. -/
def againUptoCard : Claim7 := { stood := { row := againUptoRow, standIns := [], harness := (true, "9a323fb0c47f7c25839087546f5f2f67718d2101a29a749a38c5d80d06110f2c"), looks := true }, kinds := [], alts := [], laidByText := true, laidKinds := [.handle], laidTests := true, laidLooks := .later }
def AgainUptoCardSaid : Prop := Claim7.holds Tryz.pinned (.plain (OpenSpec.upto againSpec)) againUptoCard

/-- THE SECOND FORM's CARD OF 'courierslaw.All'. -/
def allUptoCard : Claim7 := { stood := { row := allUptoRow, standIns := [], harness := (true, "9a323fb0c47f7c25839087546f5f2f67718d2101a29a749a38c5d80d06110f2c"), looks := true }, kinds := [], alts := [], laidByText := true, laidKinds := [.handle], laidTests := true, laidLooks := .later }
def AllUptoCardSaid : Prop := Claim7.holds Tryz.pinned (.plain (OpenSpec.upto allSpec)) allUptoCard

/-- THE SECOND FORM's CARD OF 'courierskeep.Sound'. -/
def soundUptoCard : Claim7 := { stood := { row := soundUptoRow, standIns := [], harness := (true, "9a323fb0c47f7c25839087546f5f2f67718d2101a29a749a38c5d80d06110f2c"), looks := true }, kinds := [], alts := [], laidByText := true, laidKinds := [.handle], laidTests := true, laidLooks := .later }
def SoundUptoCardSaid : Prop := Claim7.holds Tryz.pinned (.plain (OpenSpec.upto soundSpec)) soundUptoCard

/-- THE SECOND FORM's CARD OF 'courierskeep.Bound'. -/
def boundUptoCard : Claim7 := { stood := { row := boundUptoRow, standIns := [], harness := (true, "9a323fb0c47f7c25839087546f5f2f67718d2101a29a749a38c5d80d06110f2c"), looks := true }, kinds := [], alts := [], laidByText := true, laidKinds := [.handle], laidTests := true, laidLooks := .later }
def BoundUptoCardSaid : Prop := Claim7.holds Tryz.pinned (.plain (OpenSpec.upto boundSpec)) boundUptoCard

/-- THE SECOND FORM's CARD OF 'courierskeep.Ends'. -/
def endsUptoCard : Claim7 := { stood := { row := endsUptoRow, standIns := [], harness := (true, "9a323fb0c47f7c25839087546f5f2f67718d2101a29a749a38c5d80d06110f2c"), looks := true }, kinds := [], alts := [], laidByText := true, laidKinds := [.handle], laidTests := true, laidLooks := .later }
def EndsUptoCardSaid : Prop := Claim7.holds Tryz.pinned (.plain (OpenSpec.upto endsSpec)) endsUptoCard

/-- THE SECOND FORM's CARD OF 'courierskeep.Beside'. -/
def besideUptoCard : Claim7 := { stood := { row := besideUptoRow, standIns := [], harness := (true, "9a323fb0c47f7c25839087546f5f2f67718d2101a29a749a38c5d80d06110f2c"), looks := true }, kinds := [], alts := [], laidByText := true, laidKinds := [.handle], laidTests := true, laidLooks := .later }
def BesideUptoCardSaid : Prop := Claim7.holds Tryz.pinned (.plain (OpenSpec.upto besideSpec)) besideUptoCard
end Rows
end Go.Proofs.YtlccfpbbdgpjbaaGreatDoor
