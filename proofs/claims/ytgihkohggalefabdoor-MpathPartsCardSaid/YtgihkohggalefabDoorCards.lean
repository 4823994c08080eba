/-
  DERIVED. GIVEN WITH THE SEED: THE CARDS: each row of YtgihkohggalefabDoorRows.lean that lists a variable, with what it lists TIED to the program's text (the seventh form; the later family's looks); each row that meets fmt, with fmt's text TOLD by the authors' own Lean function (tested against real Go, not proved from fmt's source: count such statements apart). THE CARD IS WHAT COUNTS. Prove the row's statement (the work); the ties are given (YtgihkohggalefabDoorTie.lean); close each card by the builder's one call (the guide's Derived/Test/ToyasCard.lean, 'card_holds'). Laid BY PROGRAM, IN A SANDBOX (cutbox-door.mjs). By AI agents, Wed Nov 11 2026. No macro, syntax, notation, axiom, sorry.
-/
import Derived.Test.YtgihkohggalefabDoorRows
import GoSem.ClaimSeven
namespace Go.Proofs.YtgihkohggalefabDoor
namespace Rows

/-- THE TIED CARD OF 'armadalaw07.VerOrder'. -/
def verOrderCard : Claim7 := { stood := { row := verOrderRow, standIns := [], harness := (true, "358a52f234b4c7e5e230f1bb8a21848b7dddc149d97ea72bf7f775940daebcb9"), looks := true }, kinds := [], alts := [], laidByText := true, laidKinds := [.data, .data, .data, .data, .sentinel, .sentinel, .pinned], laidTests := true, laidLooks := .later }
def VerOrderCardSaid : Prop := Claim7.holds Tryd.pinned (.plain (OpenSpec.ofChange verOrderSpec)) verOrderCard

/-- THE TIED CARD OF 'armadalaw07.VerBack'. -/
def verBackCard : Claim7 := { stood := { row := verBackRow, standIns := [], harness := (true, "358a52f234b4c7e5e230f1bb8a21848b7dddc149d97ea72bf7f775940daebcb9"), looks := true }, kinds := [], alts := [], laidByText := true, laidKinds := [.data, .data, .data, .data, .sentinel, .sentinel, .pinned], laidTests := true, laidLooks := .later }
def VerBackCardSaid : Prop := Claim7.holds Tryd.pinned (.plain (OpenSpec.ofChange verBackSpec)) verBackCard

/-- THE TIED CARD OF 'armadalaw07.VerLine'. -/
def verLineCard : Claim7 := { stood := { row := verLineRow, standIns := [], harness := (true, "358a52f234b4c7e5e230f1bb8a21848b7dddc149d97ea72bf7f775940daebcb9"), looks := true }, kinds := [], alts := [], laidByText := true, laidKinds := [.data, .data, .data, .data, .sentinel, .sentinel, .pinned], laidTests := true, laidLooks := .later }
def VerLineCardSaid : Prop := Claim7.holds Tryd.pinned (.plain (OpenSpec.ofChange verLineSpec)) verLineCard

/-- THE TIED CARD OF 'armadalaw07.VerBumps'. -/
def verBumpsCard : Claim7 := { stood := { row := verBumpsRow, standIns := [], harness := (true, "358a52f234b4c7e5e230f1bb8a21848b7dddc149d97ea72bf7f775940daebcb9"), looks := true }, kinds := [], alts := [], laidByText := true, laidKinds := [.data, .data, .data, .data, .sentinel, .sentinel, .pinned], laidTests := true, laidLooks := .later }
def VerBumpsCardSaid : Prop := Claim7.holds Tryd.pinned (.plain (OpenSpec.ofChange verBumpsSpec)) verBumpsCard

/-- THE TIED CARD OF 'armadalaw07.VerMax'. -/
def verMaxCard : Claim7 := { stood := { row := verMaxRow, standIns := [], harness := (true, "358a52f234b4c7e5e230f1bb8a21848b7dddc149d97ea72bf7f775940daebcb9"), looks := true }, kinds := [], alts := [], laidByText := true, laidKinds := [.data, .data, .data, .data, .sentinel, .sentinel, .pinned], laidTests := true, laidLooks := .later }
def VerMaxCardSaid : Prop := Claim7.holds Tryd.pinned (.plain (OpenSpec.ofChange verMaxSpec)) verMaxCard

/-- THE TIED CARD OF 'armadalaw07.VerBuilds'. -/
def verBuildsCard : Claim7 := { stood := { row := verBuildsRow, standIns := [], harness := (true, "358a52f234b4c7e5e230f1bb8a21848b7dddc149d97ea72bf7f775940daebcb9"), looks := true }, kinds := [], alts := [], laidByText := true, laidKinds := [.data, .data, .data, .data, .sentinel, .sentinel, .pinned], laidTests := true, laidLooks := .later }
def VerBuildsCardSaid : Prop := Claim7.holds Tryd.pinned (.plain (OpenSpec.ofChange verBuildsSpec)) verBuildsCard

/-- THE TIED CARD OF 'armadalaw08.MpathMajors'. -/
def mpathMajorsCard : Claim7 := { stood := { row := mpathMajorsRow, standIns := [], harness := (true, "358a52f234b4c7e5e230f1bb8a21848b7dddc149d97ea72bf7f775940daebcb9"), looks := true }, kinds := [], alts := [], laidByText := true, laidKinds := [.data, .data, .data, .data, .sentinel, .sentinel, .pinned], laidTests := true, laidLooks := .later }
def MpathMajorsCardSaid : Prop := Claim7.holds Tryd.pinned (.plain (OpenSpec.ofChange mpathMajorsSpec)) mpathMajorsCard

/-- THE TIED CARD OF 'armadalaw08.MpathParts'. -/
def mpathPartsCard : Claim7 := { stood := { row := mpathPartsRow, standIns := [], harness := (true, "358a52f234b4c7e5e230f1bb8a21848b7dddc149d97ea72bf7f775940daebcb9"), looks := true }, kinds := [], alts := [], laidByText := true, laidKinds := [.data, .data, .data, .data, .sentinel, .sentinel, .pinned], laidTests := true, laidLooks := .later }
def MpathPartsCardSaid : Prop := Claim7.holds Tryd.pinned (.plain (OpenSpec.ofChange mpathPartsSpec)) mpathPartsCard

/-- THE SECOND FORM's CARD OF 'armadalaw07.VerOrder'. -/
def verOrderUptoCard : Claim7 := { stood := { row := verOrderUptoRow, standIns := [], harness := (true, "358a52f234b4c7e5e230f1bb8a21848b7dddc149d97ea72bf7f775940daebcb9"), looks := true }, kinds := [], alts := [], laidByText := true, laidKinds := [.data, .data, .data, .data, .sentinel, .sentinel, .pinned], laidTests := true, laidLooks := .later }
def VerOrderUptoCardSaid : Prop := Claim7.holds Tryd.pinned (.plain (OpenSpec.upto verOrderSpec)) verOrderUptoCard

/-- THE SECOND FORM's CARD OF 'armadalaw07.VerBack'. -/
def verBackUptoCard : Claim7 := { stood := { row := verBackUptoRow, standIns := [], harness := (true, "358a52f234b4c7e5e230f1bb8a21848b7dddc149d97ea72bf7f775940daebcb9"), looks := true }, kinds := [], alts := [], laidByText := true, laidKinds := [.data, .data, .data, .data, .sentinel, .sentinel, .pinned], laidTests := true, laidLooks := .later }
def VerBackUptoCardSaid : Prop := Claim7.holds Tryd.pinned (.plain (OpenSpec.upto verBackSpec)) verBackUptoCard

/-- THE SECOND FORM's CARD OF 'armadalaw07.VerLine'. -/
def verLineUptoCard : Claim7 := { stood := { row := verLineUptoRow, standIns := [], harness := (true, "358a52f234b4c7e5e230f1bb8a21848b7dddc149d97ea72bf7f775940daebcb9"), looks := true }, kinds := [], alts := [], laidByText := true, laidKinds := [.data, .data, .data, .data, .sentinel, .sentinel, .pinned], laidTests := true, laidLooks := .later }
def VerLineUptoCardSaid : Prop := Claim7.holds Tryd.pinned (.plain (OpenSpec.upto verLineSpec)) verLineUptoCard

/-- THE SECOND FORM's CARD OF 'armadalaw07.VerBumps'. -/
def verBumpsUptoCard : Claim7 := { stood := { row := verBumpsUptoRow, standIns := [], harness := (true, "358a52f234b4c7e5e230f1bb8a21848b7dddc149d97ea72bf7f775940daebcb9"), looks := true }, kinds := [], alts := [], laidByText := true, laidKinds := [.data, .data, .data, .data, .sentinel, .sentinel, .pinned], laidTests := true, laidLooks := .later }
def VerBumpsUptoCardSaid : Prop := Claim7.holds Tryd.pinned (.plain (OpenSpec.upto verBumpsSpec)) verBumpsUptoCard

/-- THE SECOND FORM's CARD OF 'armadalaw07.VerMax'. -/
def verMaxUptoCard : Claim7 := { stood := { row := verMaxUptoRow, standIns := [], harness := (true, "358a52f234b4c7e5e230f1bb8a21848b7dddc149d97ea72bf7f775940daebcb9"), looks := true }, kinds := [], alts := [], laidByText := true, laidKinds := [.data, .data, .data, .data, .sentinel, .sentinel, .pinned], laidTests := true, laidLooks := .later }
def VerMaxUptoCardSaid : Prop := Claim7.holds Tryd.pinned (.plain (OpenSpec.upto verMaxSpec)) verMaxUptoCard

/-- THE SECOND FORM's CARD OF 'armadalaw07.VerBuilds'. -/
def verBuildsUptoCard : Claim7 := { stood := { row := verBuildsUptoRow, standIns := [], harness := (true, "358a52f234b4c7e5e230f1bb8a21848b7dddc149d97ea72bf7f775940daebcb9"), looks := true }, kinds := [], alts := [], laidByText := true, laidKinds := [.data, .data, .data, .data, .sentinel, .sentinel, .pinned], laidTests := true, laidLooks := .later }
def VerBuildsUptoCardSaid : Prop := Claim7.holds Tryd.pinned (.plain (OpenSpec.upto verBuildsSpec)) verBuildsUptoCard

/-- THE SECOND FORM's CARD OF 'armadalaw08.MpathMajors'. -/
def mpathMajorsUptoCard : Claim7 := { stood := { row := mpathMajorsUptoRow, standIns := [], harness := (true, "358a52f234b4c7e5e230f1bb8a21848b7dddc149d97ea72bf7f775940daebcb9"), looks := true }, kinds := [], alts := [], laidByText := true, laidKinds := [.data, .data, .data, .data, .sentinel, .sentinel, .pinned], laidTests := true, laidLooks := .later }
def MpathMajorsUptoCardSaid : Prop := Claim7.holds Tryd.pinned (.plain (OpenSpec.upto mpathMajorsSpec)) mpathMajorsUptoCard

/-- THE SECOND FORM's CARD OF 'armadalaw08.MpathParts'. -/
def mpathPartsUptoCard : Claim7 := { stood := { row := mpathPartsUptoRow, standIns := [], harness := (true, "358a52f234b4c7e5e230f1bb8a21848b7dddc149d97ea72bf7f775940daebcb9"), looks := true }, kinds := [], alts := [], laidByText := true, laidKinds := [.data, .data, .data, .data, .sentinel, .sentinel, .pinned], laidTests := true, laidLooks := .later }
def MpathPartsUptoCardSaid : Prop := Claim7.holds Tryd.pinned (.plain (OpenSpec.upto mpathPartsSpec)) mpathPartsUptoCard
end Rows
end Go.Proofs.YtgihkohggalefabDoor
