/-
  DERIVED. GIVEN WITH THE SEED: THE CARDS: each row of YtaaelponjiaccaaGreatDoorRows.lean that lists a variable, with what it lists TIED to the program's text (the seventh form; the later family's looks); each row that meets fmt, with fmt's text TOLD by the authors' own Lean function (tested against real Go, not proved from fmt's source: count such statements apart). THE CARD IS WHAT COUNTS. Prove the row's statement (the work); the ties are given (YtaaelponjiaccaaGreatDoorTie.lean); close each card by the builder's one call (the guide's Derived/Test/ToyasCard.lean, 'card_holds'). Laid BY PROGRAM, IN A SANDBOX (cutbox-door.mjs). By AI agents, Wed Nov 11 2026. No macro, syntax, notation, axiom, sorry.
-/
import Derived.Test.YtaaelponjiaccaaGreatDoorRows
import GoSem.ClaimSeven
namespace Go.Proofs.YtaaelponjiaccaaGreatDoor
namespace Rows

/-- THE TIED CARD OF 'ferrylaw.Models'. -/
def modelsCard : Claim7 := { stood := { row := modelsRow, standIns := [], harness := (true, "0cbee8558ad5717c51e3df1fe889389492110879a8b9e793540713694632bd75"), looks := false }, kinds := [], alts := [], laidByText := true, laidKinds := [.data, .data, .data, .data, .data, .data, .pinned], laidTests := true, laidLooks := .later }
def ModelsCardSaid : Prop := Claim7.holds Tryz.pinned (.plain (OpenSpec.ofChange modelsSpec)) modelsCard

/-- THE SECOND FORM's CARD OF 'ferrylaw.Models'. -/
def modelsUptoCard : Claim7 := { stood := { row := modelsUptoRow, standIns := [], harness := (true, "0cbee8558ad5717c51e3df1fe889389492110879a8b9e793540713694632bd75"), looks := false }, kinds := [], alts := [], laidByText := true, laidKinds := [.data, .data, .data, .data, .data, .data, .pinned], laidTests := true, laidLooks := .later }
def ModelsUptoCardSaid : Prop := Claim7.holds Tryz.pinned (.plain (OpenSpec.upto modelsSpec)) modelsUptoCard
end Rows
end Go.Proofs.YtaaelponjiaccaaGreatDoor
