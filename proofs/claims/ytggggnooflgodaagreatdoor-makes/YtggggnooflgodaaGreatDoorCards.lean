/-
  DERIVED. GIVEN WITH THE SEED: THE CARDS: each row of YtggggnooflgodaaGreatDoorRows.lean that lists a variable, with what it lists TIED to the program's text (the seventh form; the later family's looks); each row that meets fmt, with fmt's text TOLD by the authors' own Lean function (tested against real Go, not proved from fmt's source: count such statements apart). THE CARD IS WHAT COUNTS. Prove the row's statement (the work); the ties are given (YtggggnooflgodaaGreatDoorTie.lean); close each card by the builder's one call (the guide's Derived/Test/ToyasCard.lean, 'card_holds'). Laid BY PROGRAM, IN A SANDBOX (cutbox-door.mjs). By AI agents, Wed Nov 11 2026. No macro, syntax, notation, axiom, sorry.
-/
import Derived.Test.YtggggnooflgodaaGreatDoorRows
import GoSem.ClaimSeven
namespace Go.Proofs.YtggggnooflgodaaGreatDoor
namespace Rows

/-- THE TIED CARD OF 'courierslaw.Makes'. -/
def makesCard : Claim7 := { stood := { row := makesRow, standIns := [], harness := (true, "71cd9c34f4e46f11598f1f692fb5f10b80460fe9ee91dd1350c1d7c8b10c3d7a"), looks := true }, kinds := [], alts := [], laidByText := true, laidKinds := [.handle], laidTests := true, laidLooks := .later }
def MakesCardSaid : Prop := Claim7.holds Tryz.pinned (.plain (OpenSpec.ofChange makesSpec)) makesCard

/-- THE TIED CARD OF 'courierslaw.Tries'. -/
def triesCard : Claim7 := { stood := { row := triesRow, standIns := [], harness := (true, "71cd9c34f4e46f11598f1f692fb5f10b80460fe9ee91dd1350c1d7c8b10c3d7a"), looks := true }, kinds := [], alts := [], laidByText := true, laidKinds := [.handle], laidTests := true, laidLooks := .later }
def TriesCardSaid : Prop := Claim7.holds Tryz.pinned (.plain (OpenSpec.ofChange triesSpec)) triesCard

/-- THE TIED CARD OF 'courierslaw.All'. -/
def allCard : Claim7 := { stood := { row := allRow, standIns := [], harness := (true, "71cd9c34f4e46f11598f1f692fb5f10b80460fe9ee91dd1350c1d7c8b10c3d7a"), looks := true }, kinds := [], alts := [], laidByText := true, laidKinds := [.handle], laidTests := true, laidLooks := .later }
def AllCardSaid : Prop := Claim7.holds Tryz.pinned (.plain (OpenSpec.ofChange allSpec)) allCard

/-- THE TIED CARD OF 'courierskeep.Sound'. -/
def soundCard : Claim7 := { stood := { row := soundRow, standIns := [], harness := (true, "71cd9c34f4e46f11598f1f692fb5f10b80460fe9ee91dd1350c1d7c8b10c3d7a"), looks := true }, kinds := [], alts := [], laidByText := true, laidKinds := [.handle], laidTests := true, laidLooks := .later }
def SoundCardSaid : Prop := Claim7.holds Tryz.pinned (.plain (OpenSpec.ofChange soundSpec)) soundCard

/-- THE TIED CARD OF 'courierskeep.Bound'. -/
def boundCard : Claim7 := { stood := { row := boundRow, standIns := [], harness := (true, "71cd9c34f4e46f11598f1f692fb5f10b80460fe9ee91dd1350c1d7c8b10c3d7a"), looks := true }, kinds := [], alts := [], laidByText := true, laidKinds := [.handle], laidTests := true, laidLooks := .later }
def BoundCardSaid : Prop := Claim7.holds Tryz.pinned (.plain (OpenSpec.ofChange boundSpec)) boundCard

/-- THE TIED CARD OF 'courierskeep.Ends'. -/
def endsCard : Claim7 := { stood := { row := endsRow, standIns := [], harness := (true, "71cd9c34f4e46f11598f1f692fb5f10b80460fe9ee91dd1350c1d7c8b10c3d7a"), looks := true }, kinds := [], alts := [], laidByText := true, laidKinds := [.handle], laidTests := true, laidLooks := .later }
def EndsCardSaid : Prop := Claim7.holds Tryz.pinned (.plain (OpenSpec.ofChange endsSpec)) endsCard

/-- THE SECOND FORM's CARD OF 'courierslaw.Makes'. -/
def makesUptoCard : Claim7 := { stood := { row := makesUptoRow, standIns := [], harness := (true, "71cd9c34f4e46f11598f1f692fb5f10b80460fe9ee91dd1350c1d7c8b10c3d7a"), looks := true }, kinds := [], alts := [], laidByText := true, laidKinds := [.handle], laidTests := true, laidLooks := .later }
def MakesUptoCardSaid : Prop := Claim7.holds Tryz.pinned (.plain (OpenSpec.upto makesSpec)) makesUptoCard

/-- THE SECOND FORM's CARD OF 'courierslaw.Tries'. -/
def triesUptoCard : Claim7 := { stood := { row := triesUptoRow, standIns := [], harness := (true, "71cd9c34f4e46f11598f1f692fb5f10b80460fe9ee91dd1350c1d7c8b10c3d7a"), looks := true }, kinds := [], alts := [], laidByText := true, laidKinds := [.handle], laidTests := true, laidLooks := .later }
def TriesUptoCardSaid : Prop := Claim7.holds Tryz.pinned (.plain (OpenSpec.upto triesSpec)) triesUptoCard

/-- THE SECOND FORM's CARD OF 'courierslaw.All'. -/
def allUptoCard : Claim7 := { stood := { row := allUptoRow, standIns := [], harness := (true, "71cd9c34f4e46f11598f1f692fb5f10b80460fe9ee91dd1350c1d7c8b10c3d7a"), looks := true }, kinds := [], alts := [], laidByText := true, laidKinds := [.handle], laidTests := true, laidLooks := .later }
def AllUptoCardSaid : Prop := Claim7.holds Tryz.pinned (.plain (OpenSpec.upto allSpec)) allUptoCard

/-- THE SECOND FORM's CARD OF 'courierskeep.Sound'. -/
def soundUptoCard : Claim7 := { stood := { row := soundUptoRow, standIns := [], harness := (true, "71cd9c34f4e46f11598f1f692fb5f10b80460fe9ee91dd1350c1d7c8b10c3d7a"), looks := true }, kinds := [], alts := [], laidByText := true, laidKinds := [.handle], laidTests := true, laidLooks := .later }
def SoundUptoCardSaid : Prop := Claim7.holds Tryz.pinned (.plain (OpenSpec.upto soundSpec)) soundUptoCard

/-- THE SECOND FORM's CARD OF 'courierskeep.Bound'. -/
def boundUptoCard : Claim7 := { stood := { row := boundUptoRow, standIns := [], harness := (true, "71cd9c34f4e46f11598f1f692fb5f10b80460fe9ee91dd1350c1d7c8b10c3d7a"), looks := true }, kinds := [], alts := [], laidByText := true, laidKinds := [.handle], laidTests := true, laidLooks := .later }
def BoundUptoCardSaid : Prop := Claim7.holds Tryz.pinned (.plain (OpenSpec.upto boundSpec)) boundUptoCard

/-- THE SECOND FORM's CARD OF 'courierskeep.Ends'. -/
def endsUptoCard : Claim7 := { stood := { row := endsUptoRow, standIns := [], harness := (true, "71cd9c34f4e46f11598f1f692fb5f10b80460fe9ee91dd1350c1d7c8b10c3d7a"), looks := true }, kinds := [], alts := [], laidByText := true, laidKinds := [.handle], laidTests := true, laidLooks := .later }
def EndsUptoCardSaid : Prop := Claim7.holds Tryz.pinned (.plain (OpenSpec.upto endsSpec)) endsUptoCard
end Rows
end Go.Proofs.YtggggnooflgodaaGreatDoor
