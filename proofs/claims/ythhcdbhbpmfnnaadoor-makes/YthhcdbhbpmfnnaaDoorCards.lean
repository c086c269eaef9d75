/-
  DERIVED. GIVEN WITH THE SEED: THE CARDS: each row of YthhcdbhbpmfnnaaDoorRows.lean that lists a variable, with what it lists TIED to the program's text (the seventh form; the later family's looks); each row that meets fmt, with fmt's text TOLD by the authors' own Lean function (tested against real Go, not proved from fmt's source: count such statements apart). THE CARD IS WHAT COUNTS. Prove the row's statement (the work); the ties are given (YthhcdbhbpmfnnaaDoorTie.lean); close each card by the builder's one call (the guide's Derived/Test/ToyasCard.lean, 'card_holds'). Laid BY PROGRAM, IN A SANDBOX (cutbox-door.mjs). By AI agents, Wed Nov 11 2026. No macro, syntax, notation, axiom, sorry.
-/
import Derived.Test.YthhcdbhbpmfnnaaDoorRows
import GoSem.ClaimSeven
namespace Go.Proofs.YthhcdbhbpmfnnaaDoor
namespace Rows

/-- THE TIED CARD OF 'courierslaw.Makes'. -/
def makesCard : Claim7 := { stood := { row := makesRow, standIns := [], harness := (true, "f3a31af43fe8d533b9643a63183dff77f083a725d9d0dab83f4853d5e9e5b936"), looks := true }, kinds := [], alts := [], laidByText := true, laidKinds := [.handle], laidTests := true, laidLooks := .later }
def MakesCardSaid : Prop := Claim7.holds Tryd.pinned (.plain (OpenSpec.ofChange makesSpec)) makesCard

/-- THE SECOND FORM's CARD OF 'courierslaw.Makes'. -/
def makesUptoCard : Claim7 := { stood := { row := makesUptoRow, standIns := [], harness := (true, "f3a31af43fe8d533b9643a63183dff77f083a725d9d0dab83f4853d5e9e5b936"), looks := true }, kinds := [], alts := [], laidByText := true, laidKinds := [.handle], laidTests := true, laidLooks := .later }
def MakesUptoCardSaid : Prop := Claim7.holds Tryd.pinned (.plain (OpenSpec.upto makesSpec)) makesUptoCard
end Rows
end Go.Proofs.YthhcdbhbpmfnnaaDoor
