/-
  DERIVED. GIVEN WITH THE SEED: THE CARDS: each row of YtjkpbpgeedihhaaGreatDoorRows.lean that lists a variable, with what it lists TIED to the program's text (the seventh form; the later family's looks); each row that meets fmt, with fmt's text TOLD by the authors' own Lean function (tested against real Go, not proved from fmt's source: count such statements apart). THE CARD IS WHAT COUNTS. Prove the row's statement (the work); the ties are given (YtjkpbpgeedihhaaGreatDoorTie.lean); close each card by the builder's one call (the guide's Derived/Test/ToyasCard.lean, 'card_holds'). Laid BY PROGRAM, IN A SANDBOX (cutbox-door.mjs). By AI agents, Wed Nov 11 2026. No macro, syntax, notation, axiom, sorry.
-/
import Derived.Test.YtjkpbpgeedihhaaGreatDoorRows
import GoSem.ClaimSeven
namespace Go.Proofs.YtjkpbpgeedihhaaGreatDoor
namespace Rows

/-- THE TIED CARD OF 'ferrylaw.Disks'. -/
def disksCard : Claim7 := { stood := { row := disksRow, standIns := [], harness := (true, "700e9ad9e543297cfdeae0e4bdd1d5c8d1424f729902cc184a5790526fa95a5a"), looks := true }, kinds := [], alts := [], goes := true, laidByText := true, laidKinds := [.data, .data, .data, .data, .sentinel, .sentinel, .data, .data, .pinned], laidTests := true, laidLooks := .later }
def DisksCardSaid : Prop := Claim7.holds Tryz.pinned (.plain (OpenSpec.ofChange disksSpec)) disksCard

/-- THE TIED CARD OF 'ferrylaw.Texts'. -/
def textsCard : Claim7 := { stood := { row := textsRow, standIns := [], harness := (true, "700e9ad9e543297cfdeae0e4bdd1d5c8d1424f729902cc184a5790526fa95a5a"), looks := true }, kinds := [], alts := [], goes := true, laidByText := true, laidKinds := [.data, .data, .data, .data, .sentinel, .sentinel, .data, .data, .pinned], laidTests := true, laidLooks := .later }
def TextsCardSaid : Prop := Claim7.holds Tryz.pinned (.plain (OpenSpec.ofChange textsSpec)) textsCard

/-- THE TIED CARD OF 'ferrylaw.Models'. -/
def modelsCard : Claim7 := { stood := { row := modelsRow, standIns := [], harness := (true, "700e9ad9e543297cfdeae0e4bdd1d5c8d1424f729902cc184a5790526fa95a5a"), looks := true }, kinds := [], alts := [], goes := true, laidByText := true, laidKinds := [.data, .data, .data, .data, .data, .data, .pinned], laidTests := true, laidLooks := .later }
def ModelsCardSaid : Prop := Claim7.holds Tryz.pinned (.plain (OpenSpec.ofChange modelsSpec)) modelsCard

/-- THE TIED CARD OF 'ferrykeep.Back'. -/
def backCard : Claim7 := { stood := { row := backRow, standIns := [], harness := (true, "700e9ad9e543297cfdeae0e4bdd1d5c8d1424f729902cc184a5790526fa95a5a"), looks := true }, kinds := [], alts := [], goes := true, laidByText := true, laidKinds := [.data, .data, .data, .data, .sentinel, .sentinel, .data, .data, .pinned], laidTests := true, laidLooks := .later }
def BackCardSaid : Prop := Claim7.holds Tryz.pinned (.plain (OpenSpec.ofChange backSpec)) backCard

/-- THE TIED CARD OF 'ferrylaw.Runs'. -/
def runsCard : Claim7 := { stood := { row := runsRow, standIns := [], harness := (true, "700e9ad9e543297cfdeae0e4bdd1d5c8d1424f729902cc184a5790526fa95a5a"), looks := true }, kinds := [], alts := [], goes := true, laidByText := true, laidKinds := [.data, .data, .data, .data, .sentinel, .sentinel, .data, .data, .pinned], laidTests := true, laidLooks := .later }
def RunsCardSaid : Prop := Claim7.holds Tryz.pinned (.plain (OpenSpec.ofChange runsSpec)) runsCard

/-- THE TIED CARD OF 'ferrykeep.Straight'. -/
def straightCard : Claim7 := { stood := { row := straightRow, standIns := [], harness := (true, "700e9ad9e543297cfdeae0e4bdd1d5c8d1424f729902cc184a5790526fa95a5a"), looks := true }, kinds := [], alts := [], goes := true, laidByText := true, laidKinds := [.data, .data, .data, .data, .sentinel, .sentinel, .data, .data, .pinned], laidTests := true, laidLooks := .later }
def StraightCardSaid : Prop := Claim7.holds Tryz.pinned (.plain (OpenSpec.ofChange straightSpec)) straightCard

/-- THE TIED CARD OF 'ferrykeep.Chosen'. -/
def chosenCard : Claim7 := { stood := { row := chosenRow, standIns := [], harness := (true, "700e9ad9e543297cfdeae0e4bdd1d5c8d1424f729902cc184a5790526fa95a5a"), looks := true }, kinds := [], alts := [], goes := true, laidByText := true, laidKinds := [.data, .data, .data, .data, .sentinel, .sentinel, .data, .data, .pinned], laidTests := true, laidLooks := .later }
def ChosenCardSaid : Prop := Claim7.holds Tryz.pinned (.plain (OpenSpec.ofChange chosenSpec)) chosenCard

/-- THE TIED CARD OF 'ferrykeep.Forked'. -/
def forkedCard : Claim7 := { stood := { row := forkedRow, standIns := [], harness := (true, "700e9ad9e543297cfdeae0e4bdd1d5c8d1424f729902cc184a5790526fa95a5a"), looks := true }, kinds := [], alts := [], goes := true, laidByText := true, laidKinds := [.data, .data, .data, .data, .sentinel, .sentinel, .data, .data, .pinned], laidTests := true, laidLooks := .later }
def ForkedCardSaid : Prop := Claim7.holds Tryz.pinned (.plain (OpenSpec.ofChange forkedSpec)) forkedCard

/-- THE TIED CARD OF 'ferrykeep.Timed'. -/
def timedCard : Claim7 := { stood := { row := timedRow, standIns := [], harness := (true, "700e9ad9e543297cfdeae0e4bdd1d5c8d1424f729902cc184a5790526fa95a5a"), looks := true }, kinds := [], alts := [], goes := true, laidByText := true, laidKinds := [.data, .data, .data, .data, .sentinel, .sentinel, .data, .data, .pinned], laidTests := true, laidLooks := .later }
def TimedCardSaid : Prop := Claim7.holds Tryz.pinned (.plain (OpenSpec.ofChange timedSpec)) timedCard

/-- THE TIED CARD OF 'ferrykeep.Summed'. -/
def summedCard : Claim7 := { stood := { row := summedRow, standIns := [], harness := (true, "700e9ad9e543297cfdeae0e4bdd1d5c8d1424f729902cc184a5790526fa95a5a"), looks := true }, kinds := [], alts := [], goes := true, laidByText := true, laidKinds := [.data, .data, .data, .data, .sentinel, .sentinel, .data, .data, .pinned], laidTests := true, laidLooks := .later }
def SummedCardSaid : Prop := Claim7.holds Tryz.pinned (.plain (OpenSpec.ofChange summedSpec)) summedCard

/-- THE TIED CARD OF 'ferrykeep.Reopened'. -/
def reopenedCard : Claim7 := { stood := { row := reopenedRow, standIns := [], harness := (true, "700e9ad9e543297cfdeae0e4bdd1d5c8d1424f729902cc184a5790526fa95a5a"), looks := true }, kinds := [], alts := [], goes := true, laidByText := true, laidKinds := [.data, .data, .data, .data, .sentinel, .sentinel, .data, .data, .pinned], laidTests := true, laidLooks := .later }
def ReopenedCardSaid : Prop := Claim7.holds Tryz.pinned (.plain (OpenSpec.ofChange reopenedSpec)) reopenedCard

/-- THE TIED CARD OF 'ferrykeep.Halted'. -/
def haltedCard : Claim7 := { stood := { row := haltedRow, standIns := [], harness := (true, "700e9ad9e543297cfdeae0e4bdd1d5c8d1424f729902cc184a5790526fa95a5a"), looks := true }, kinds := [], alts := [], goes := true, laidByText := true, laidKinds := [.data, .data, .data, .data, .sentinel, .sentinel, .data, .data, .pinned], laidTests := true, laidLooks := .later }
def HaltedCardSaid : Prop := Claim7.holds Tryz.pinned (.plain (OpenSpec.ofChange haltedSpec)) haltedCard

/-- THE SECOND FORM's CARD OF 'ferrylaw.Disks'. -/
def disksUptoCard : Claim7 := { stood := { row := disksUptoRow, standIns := [], harness := (true, "700e9ad9e543297cfdeae0e4bdd1d5c8d1424f729902cc184a5790526fa95a5a"), looks := true }, kinds := [], alts := [], goes := true, laidByText := true, laidKinds := [.data, .data, .data, .data, .sentinel, .sentinel, .data, .data, .pinned], laidTests := true, laidLooks := .later }
def DisksUptoCardSaid : Prop := Claim7.holds Tryz.pinned (.plain (OpenSpec.upto disksSpec)) disksUptoCard

/-- THE SECOND FORM's CARD OF 'ferrylaw.Texts'. -/
def textsUptoCard : Claim7 := { stood := { row := textsUptoRow, standIns := [], harness := (true, "700e9ad9e543297cfdeae0e4bdd1d5c8d1424f729902cc184a5790526fa95a5a"), looks := true }, kinds := [], alts := [], goes := true, laidByText := true, laidKinds := [.data, .data, .data, .data, .sentinel, .sentinel, .data, .data, .pinned], laidTests := true, laidLooks := .later }
def TextsUptoCardSaid : Prop := Claim7.holds Tryz.pinned (.plain (OpenSpec.upto textsSpec)) textsUptoCard

/-- THE SECOND FORM's CARD OF 'ferrylaw.Models'. -/
def modelsUptoCard : Claim7 := { stood := { row := modelsUptoRow, standIns := [], harness := (true, "700e9ad9e543297cfdeae0e4bdd1d5c8d1424f729902cc184a5790526fa95a5a"), looks := true }, kinds := [], alts := [], goes := true, laidByText := true, laidKinds := [.data, .data, .data, .data, .data, .data, .pinned], laidTests := true, laidLooks := .later }
def ModelsUptoCardSaid : Prop := Claim7.holds Tryz.pinned (.plain (OpenSpec.upto modelsSpec)) modelsUptoCard

/-- THE SECOND FORM's CARD OF 'ferrykeep.Back'. -/
def backUptoCard : Claim7 := { stood := { row := backUptoRow, standIns := [], harness := (true, "700e9ad9e543297cfdeae0e4bdd1d5c8d1424f729902cc184a5790526fa95a5a"), looks := true }, kinds := [], alts := [], goes := true, laidByText := true, laidKinds := [.data, .data, .data, .data, .sentinel, .sentinel, .data, .data, .pinned], laidTests := true, laidLooks := .later }
def BackUptoCardSaid : Prop := Claim7.holds Tryz.pinned (.plain (OpenSpec.upto backSpec)) backUptoCard

/-- THE SECOND FORM's CARD OF 'ferrylaw.Runs'. -/
def runsUptoCard : Claim7 := { stood := { row := runsUptoRow, standIns := [], harness := (true, "700e9ad9e543297cfdeae0e4bdd1d5c8d1424f729902cc184a5790526fa95a5a"), looks := true }, kinds := [], alts := [], goes := true, laidByText := true, laidKinds := [.data, .data, .data, .data, .sentinel, .sentinel, .data, .data, .pinned], laidTests := true, laidLooks := .later }
def RunsUptoCardSaid : Prop := Claim7.holds Tryz.pinned (.plain (OpenSpec.upto runsSpec)) runsUptoCard

/-- THE SECOND FORM's CARD OF 'ferrykeep.Straight'. -/
def straightUptoCard : Claim7 := { stood := { row := straightUptoRow, standIns := [], harness := (true, "700e9ad9e543297cfdeae0e4bdd1d5c8d1424f729902cc184a5790526fa95a5a"), looks := true }, kinds := [], alts := [], goes := true, laidByText := true, laidKinds := [.data, .data, .data, .data, .sentinel, .sentinel, .data, .data, .pinned], laidTests := true, laidLooks := .later }
def StraightUptoCardSaid : Prop := Claim7.holds Tryz.pinned (.plain (OpenSpec.upto straightSpec)) straightUptoCard

/-- THE SECOND FORM's CARD OF 'ferrykeep.Chosen'. -/
def chosenUptoCard : Claim7 := { stood := { row := chosenUptoRow, standIns := [], harness := (true, "700e9ad9e543297cfdeae0e4bdd1d5c8d1424f729902cc184a5790526fa95a5a"), looks := true }, kinds := [], alts := [], goes := true, laidByText := true, laidKinds := [.data, .data, .data, .data, .sentinel, .sentinel, .data, .data, .pinned], laidTests := true, laidLooks := .later }
def ChosenUptoCardSaid : Prop := Claim7.holds Tryz.pinned (.plain (OpenSpec.upto chosenSpec)) chosenUptoCard

/-- THE SECOND FORM's CARD OF 'ferrykeep.Forked'. -/
def forkedUptoCard : Claim7 := { stood := { row := forkedUptoRow, standIns := [], harness := (true, "700e9ad9e543297cfdeae0e4bdd1d5c8d1424f729902cc184a5790526fa95a5a"), looks := true }, kinds := [], alts := [], goes := true, laidByText := true, laidKinds := [.data, .data, .data, .data, .sentinel, .sentinel, .data, .data, .pinned], laidTests := true, laidLooks := .later }
def ForkedUptoCardSaid : Prop := Claim7.holds Tryz.pinned (.plain (OpenSpec.upto forkedSpec)) forkedUptoCard

/-- THE SECOND FORM's CARD OF 'ferrykeep.Timed'. -/
def timedUptoCard : Claim7 := { stood := { row := timedUptoRow, standIns := [], harness := (true, "700e9ad9e543297cfdeae0e4bdd1d5c8d1424f729902cc184a5790526fa95a5a"), looks := true }, kinds := [], alts := [], goes := true, laidByText := true, laidKinds := [.data, .data, .data, .data, .sentinel, .sentinel, .data, .data, .pinned], laidTests := true, laidLooks := .later }
def TimedUptoCardSaid : Prop := Claim7.holds Tryz.pinned (.plain (OpenSpec.upto timedSpec)) timedUptoCard

/-- THE SECOND FORM's CARD OF 'ferrykeep.Summed'. -/
def summedUptoCard : Claim7 := { stood := { row := summedUptoRow, standIns := [], harness := (true, "700e9ad9e543297cfdeae0e4bdd1d5c8d1424f729902cc184a5790526fa95a5a"), looks := true }, kinds := [], alts := [], goes := true, laidByText := true, laidKinds := [.data, .data, .data, .data, .sentinel, .sentinel, .data, .data, .pinned], laidTests := true, laidLooks := .later }
def SummedUptoCardSaid : Prop := Claim7.holds Tryz.pinned (.plain (OpenSpec.upto summedSpec)) summedUptoCard

/-- THE SECOND FORM's CARD OF 'ferrykeep.Reopened'. -/
def reopenedUptoCard : Claim7 := { stood := { row := reopenedUptoRow, standIns := [], harness := (true, "700e9ad9e543297cfdeae0e4bdd1d5c8d1424f729902cc184a5790526fa95a5a"), looks := true }, kinds := [], alts := [], goes := true, laidByText := true, laidKinds := [.data, .data, .data, .data, .sentinel, .sentinel, .data, .data, .pinned], laidTests := true, laidLooks := .later }
def ReopenedUptoCardSaid : Prop := Claim7.holds Tryz.pinned (.plain (OpenSpec.upto reopenedSpec)) reopenedUptoCard

/-- THE SECOND FORM's CARD OF 'ferrykeep.Halted'. -/
def haltedUptoCard : Claim7 := { stood := { row := haltedUptoRow, standIns := [], harness := (true, "700e9ad9e543297cfdeae0e4bdd1d5c8d1424f729902cc184a5790526fa95a5a"), looks := true }, kinds := [], alts := [], goes := true, laidByText := true, laidKinds := [.data, .data, .data, .data, .sentinel, .sentinel, .data, .data, .pinned], laidTests := true, laidLooks := .later }
def HaltedUptoCardSaid : Prop := Claim7.holds Tryz.pinned (.plain (OpenSpec.upto haltedSpec)) haltedUptoCard
end Rows
end Go.Proofs.YtjkpbpgeedihhaaGreatDoor
