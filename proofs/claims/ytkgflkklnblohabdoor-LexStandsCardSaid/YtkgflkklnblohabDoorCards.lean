/-
  DERIVED. GIVEN WITH THE SEED: THE CARDS: each row of YtkgflkklnblohabDoorRows.lean that lists a variable, with what it lists TIED to the program's text (the seventh form; the later family's looks); each row that meets fmt, with fmt's text TOLD by the authors' own Lean function (tested against real Go, not proved from fmt's source: count such statements apart). THE CARD IS WHAT COUNTS. Prove the row's statement (the work); the ties are given (YtkgflkklnblohabDoorTie.lean); close each card by the builder's one call (the guide's Derived/Test/ToyasCard.lean, 'card_holds'). Laid BY PROGRAM, IN A SANDBOX (cutbox-door.mjs). By AI agents, Wed Nov 11 2026. No macro, syntax, notation, axiom, sorry.
-/
import Derived.Test.YtkgflkklnblohabDoorRows
import GoSem.ClaimSeven
namespace Go.Proofs.YtkgflkklnblohabDoor
namespace Rows

/-- THE TIED CARD OF 'armadalaw07.VerBuilds'. -/
def verBuildsCard : Claim7 := { stood := { row := verBuildsRow, standIns := [], harness := (true, "76203d2d8d0ba52da1208f1f3996ce36c904fd8155fd93d841bff18c65a619e8"), looks := true }, kinds := [], alts := [], laidByText := true, laidKinds := [.data, .data, .data, .data, .sentinel, .sentinel, .pinned], laidTests := true, laidLooks := .later }
def VerBuildsCardSaid : Prop := Claim7.holds Tryd.pinned (.plain (OpenSpec.ofChange verBuildsSpec)) verBuildsCard

/-- THE TIED CARD OF 'armadalaw08.MpathMajors'. -/
def mpathMajorsCard : Claim7 := { stood := { row := mpathMajorsRow, standIns := [], harness := (true, "76203d2d8d0ba52da1208f1f3996ce36c904fd8155fd93d841bff18c65a619e8"), looks := true }, kinds := [], alts := [], laidByText := true, laidKinds := [.data, .data, .data, .data, .sentinel, .sentinel, .pinned], laidTests := true, laidLooks := .later }
def MpathMajorsCardSaid : Prop := Claim7.holds Tryd.pinned (.plain (OpenSpec.ofChange mpathMajorsSpec)) mpathMajorsCard

/-- THE TIED CARD OF 'armadalaw08.MpathParts'. -/
def mpathPartsCard : Claim7 := { stood := { row := mpathPartsRow, standIns := [], harness := (true, "76203d2d8d0ba52da1208f1f3996ce36c904fd8155fd93d841bff18c65a619e8"), looks := true }, kinds := [], alts := [], laidByText := true, laidKinds := [.data, .data, .data, .data, .sentinel, .sentinel, .pinned], laidTests := true, laidLooks := .later }
def MpathPartsCardSaid : Prop := Claim7.holds Tryd.pinned (.plain (OpenSpec.ofChange mpathPartsSpec)) mpathPartsCard

/-- THE TIED CARD OF 'armadalaw09.LexTells'. -/
def lexTellsCard : Claim7 := { stood := { row := lexTellsRow, standIns := [], harness := (true, "76203d2d8d0ba52da1208f1f3996ce36c904fd8155fd93d841bff18c65a619e8"), looks := true }, kinds := [], alts := [], laidByText := true, laidKinds := [.data, .pinned], laidTests := true, laidLooks := .later }
def LexTellsCardSaid : Prop := Claim7.holds Tryd.pinned (.plain (OpenSpec.ofChange lexTellsSpec)) lexTellsCard

/-- THE TIED CARD OF 'armadalaw09.LexStands'. -/
def lexStandsCard : Claim7 := { stood := { row := lexStandsRow, standIns := [], harness := (true, "76203d2d8d0ba52da1208f1f3996ce36c904fd8155fd93d841bff18c65a619e8"), looks := true }, kinds := [], alts := [], laidByText := true, laidKinds := [.data, .pinned], laidTests := true, laidLooks := .later }
def LexStandsCardSaid : Prop := Claim7.holds Tryd.pinned (.plain (OpenSpec.ofChange lexStandsSpec)) lexStandsCard

/-- THE SECOND FORM's CARD OF 'armadalaw07.VerBuilds'. -/
def verBuildsUptoCard : Claim7 := { stood := { row := verBuildsUptoRow, standIns := [], harness := (true, "76203d2d8d0ba52da1208f1f3996ce36c904fd8155fd93d841bff18c65a619e8"), looks := true }, kinds := [], alts := [], laidByText := true, laidKinds := [.data, .data, .data, .data, .sentinel, .sentinel, .pinned], laidTests := true, laidLooks := .later }
def VerBuildsUptoCardSaid : Prop := Claim7.holds Tryd.pinned (.plain (OpenSpec.upto verBuildsSpec)) verBuildsUptoCard

/-- THE SECOND FORM's CARD OF 'armadalaw08.MpathMajors'. -/
def mpathMajorsUptoCard : Claim7 := { stood := { row := mpathMajorsUptoRow, standIns := [], harness := (true, "76203d2d8d0ba52da1208f1f3996ce36c904fd8155fd93d841bff18c65a619e8"), looks := true }, kinds := [], alts := [], laidByText := true, laidKinds := [.data, .data, .data, .data, .sentinel, .sentinel, .pinned], laidTests := true, laidLooks := .later }
def MpathMajorsUptoCardSaid : Prop := Claim7.holds Tryd.pinned (.plain (OpenSpec.upto mpathMajorsSpec)) mpathMajorsUptoCard

/-- THE SECOND FORM's CARD OF 'armadalaw08.MpathParts'. -/
def mpathPartsUptoCard : Claim7 := { stood := { row := mpathPartsUptoRow, standIns := [], harness := (true, "76203d2d8d0ba52da1208f1f3996ce36c904fd8155fd93d841bff18c65a619e8"), looks := true }, kinds := [], alts := [], laidByText := true, laidKinds := [.data, .data, .data, .data, .sentinel, .sentinel, .pinned], laidTests := true, laidLooks := .later }
def MpathPartsUptoCardSaid : Prop := Claim7.holds Tryd.pinned (.plain (OpenSpec.upto mpathPartsSpec)) mpathPartsUptoCard

/-- THE SECOND FORM's CARD OF 'armadalaw09.LexTells'. -/
def lexTellsUptoCard : Claim7 := { stood := { row := lexTellsUptoRow, standIns := [], harness := (true, "76203d2d8d0ba52da1208f1f3996ce36c904fd8155fd93d841bff18c65a619e8"), looks := true }, kinds := [], alts := [], laidByText := true, laidKinds := [.data, .pinned], laidTests := true, laidLooks := .later }
def LexTellsUptoCardSaid : Prop := Claim7.holds Tryd.pinned (.plain (OpenSpec.upto lexTellsSpec)) lexTellsUptoCard

/-- THE SECOND FORM's CARD OF 'armadalaw09.LexStands'. -/
def lexStandsUptoCard : Claim7 := { stood := { row := lexStandsUptoRow, standIns := [], harness := (true, "76203d2d8d0ba52da1208f1f3996ce36c904fd8155fd93d841bff18c65a619e8"), looks := true }, kinds := [], alts := [], laidByText := true, laidKinds := [.data, .pinned], laidTests := true, laidLooks := .later }
def LexStandsUptoCardSaid : Prop := Claim7.holds Tryd.pinned (.plain (OpenSpec.upto lexStandsSpec)) lexStandsUptoCard
end Rows
end Go.Proofs.YtkgflkklnblohabDoor
