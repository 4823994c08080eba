/-
  DERIVED. GIVEN WITH THE SEED: THE CARDS: each row of YtgihkohggalefabGreatDoorRows.lean that lists a variable, with what it lists TIED to the program's text (the seventh form; the later family's looks); each row that meets fmt, with fmt's text TOLD by the authors' own Lean function (tested against real Go, not proved from fmt's source: count such statements apart). THE CARD IS WHAT COUNTS. Prove the row's statement (the work); the ties are given (YtgihkohggalefabGreatDoorTie.lean); close each card by the builder's one call (the guide's Derived/Test/ToyasCard.lean, 'card_holds'). Laid BY PROGRAM, IN A SANDBOX (cutbox-door.mjs). By AI agents, Wed Nov 11 2026. No macro, syntax, notation, axiom, sorry.
-/
import Derived.Test.YtgihkohggalefabGreatDoorRows
import GoSem.ClaimSeven
namespace Go.Proofs.YtgihkohggalefabGreatDoor
namespace Rows

/-- THE TIED CARD OF 'armadalaw08.MpathTells'. -/
def mpathTellsCard : Claim7 := { stood := { row := mpathTellsRow, standIns := [], harness := (true, "ba35a8ea3add0e0ac56db58d696b3ce22e013a2d017914c1dacb4d0a628fb5cf"), looks := true }, kinds := [], alts := [], laidByText := true, laidKinds := [.data, .data, .data, .data, .sentinel, .sentinel, .pinned], laidTests := true, laidLooks := .later }
def MpathTellsCardSaid : Prop := Claim7.holds Tryz.pinned (.plain (OpenSpec.ofChange mpathTellsSpec)) mpathTellsCard

/-- THE SECOND FORM's CARD OF 'armadalaw08.MpathTells'. -/
def mpathTellsUptoCard : Claim7 := { stood := { row := mpathTellsUptoRow, standIns := [], harness := (true, "ba35a8ea3add0e0ac56db58d696b3ce22e013a2d017914c1dacb4d0a628fb5cf"), looks := true }, kinds := [], alts := [], laidByText := true, laidKinds := [.data, .data, .data, .data, .sentinel, .sentinel, .pinned], laidTests := true, laidLooks := .later }
def MpathTellsUptoCardSaid : Prop := Claim7.holds Tryz.pinned (.plain (OpenSpec.upto mpathTellsSpec)) mpathTellsUptoCard
end Rows
end Go.Proofs.YtgihkohggalefabGreatDoor
