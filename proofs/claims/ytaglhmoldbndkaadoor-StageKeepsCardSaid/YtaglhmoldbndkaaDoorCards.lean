/-
  DERIVED. GIVEN WITH THE SEED: THE CARDS: each row of YtaglhmoldbndkaaDoorRows.lean that lists a variable, with what it lists TIED to the program's text (the seventh form; the later family's looks); each row that meets fmt, with fmt's text TOLD by the authors' own Lean function (tested against real Go, not proved from fmt's source: count such statements apart). THE CARD IS WHAT COUNTS. Prove the row's statement (the work); the ties are given (YtaglhmoldbndkaaDoorTie.lean); close each card by the builder's one call (the guide's Derived/Test/ToyasCard.lean, 'card_holds'). Laid BY PROGRAM, IN A SANDBOX (cutbox-door.mjs). By AI agents, Wed Nov 11 2026. No macro, syntax, notation, axiom, sorry.
-/
import Derived.Test.YtaglhmoldbndkaaDoorRows
import GoSem.ClaimSeven
namespace Go.Proofs.YtaglhmoldbndkaaDoor
namespace Rows

/-- THE TIED CARD OF 'armadalaw20.StageTells'. -/
def stageTellsCard : Claim7 := { stood := { row := stageTellsRow, standIns := [], harness := (true, "071591c4162c434d9fd13bdf4b79583bd642ecaa0c8029baef80245ef41ac1e2"), looks := false }, kinds := [], alts := [], laidByText := true, laidKinds := [.data, .pinned], laidTests := true, laidLooks := .later }
def StageTellsCardSaid : Prop := Claim7.holds Tryd.pinned (.plain (OpenSpec.ofChange stageTellsSpec)) stageTellsCard

/-- THE TIED CARD OF 'armadalaw20.StageEnds'. -/
def stageEndsCard : Claim7 := { stood := { row := stageEndsRow, standIns := [], harness := (true, "071591c4162c434d9fd13bdf4b79583bd642ecaa0c8029baef80245ef41ac1e2"), looks := false }, kinds := [], alts := [], laidByText := true, laidKinds := [.data, .pinned], laidTests := true, laidLooks := .later }
def StageEndsCardSaid : Prop := Claim7.holds Tryd.pinned (.plain (OpenSpec.ofChange stageEndsSpec)) stageEndsCard

/-- THE TIED CARD OF 'armadalaw20.StageKeeps'. -/
def stageKeepsCard : Claim7 := { stood := { row := stageKeepsRow, standIns := [], harness := (true, "071591c4162c434d9fd13bdf4b79583bd642ecaa0c8029baef80245ef41ac1e2"), looks := false }, kinds := [], alts := [], laidByText := true, laidKinds := [.data, .pinned], laidTests := true, laidLooks := .later }
def StageKeepsCardSaid : Prop := Claim7.holds Tryd.pinned (.plain (OpenSpec.ofChange stageKeepsSpec)) stageKeepsCard

/-- THE TIED CARD OF 'armadalaw20.StagePlain'. -/
def stagePlainCard : Claim7 := { stood := { row := stagePlainRow, standIns := [], harness := (true, "071591c4162c434d9fd13bdf4b79583bd642ecaa0c8029baef80245ef41ac1e2"), looks := false }, kinds := [], alts := [], laidByText := true, laidKinds := [.data, .pinned], laidTests := true, laidLooks := .later }
def StagePlainCardSaid : Prop := Claim7.holds Tryd.pinned (.plain (OpenSpec.ofChange stagePlainSpec)) stagePlainCard

/-- THE SECOND FORM's CARD OF 'armadalaw20.StageTells'. -/
def stageTellsUptoCard : Claim7 := { stood := { row := stageTellsUptoRow, standIns := [], harness := (true, "071591c4162c434d9fd13bdf4b79583bd642ecaa0c8029baef80245ef41ac1e2"), looks := false }, kinds := [], alts := [], laidByText := true, laidKinds := [.data, .pinned], laidTests := true, laidLooks := .later }
def StageTellsUptoCardSaid : Prop := Claim7.holds Tryd.pinned (.plain (OpenSpec.upto stageTellsSpec)) stageTellsUptoCard

/-- THE SECOND FORM's CARD OF 'armadalaw20.StageEnds'. -/
def stageEndsUptoCard : Claim7 := { stood := { row := stageEndsUptoRow, standIns := [], harness := (true, "071591c4162c434d9fd13bdf4b79583bd642ecaa0c8029baef80245ef41ac1e2"), looks := false }, kinds := [], alts := [], laidByText := true, laidKinds := [.data, .pinned], laidTests := true, laidLooks := .later }
def StageEndsUptoCardSaid : Prop := Claim7.holds Tryd.pinned (.plain (OpenSpec.upto stageEndsSpec)) stageEndsUptoCard

/-- THE SECOND FORM's CARD OF 'armadalaw20.StageKeeps'. -/
def stageKeepsUptoCard : Claim7 := { stood := { row := stageKeepsUptoRow, standIns := [], harness := (true, "071591c4162c434d9fd13bdf4b79583bd642ecaa0c8029baef80245ef41ac1e2"), looks := false }, kinds := [], alts := [], laidByText := true, laidKinds := [.data, .pinned], laidTests := true, laidLooks := .later }
def StageKeepsUptoCardSaid : Prop := Claim7.holds Tryd.pinned (.plain (OpenSpec.upto stageKeepsSpec)) stageKeepsUptoCard

/-- THE SECOND FORM's CARD OF 'armadalaw20.StagePlain'. -/
def stagePlainUptoCard : Claim7 := { stood := { row := stagePlainUptoRow, standIns := [], harness := (true, "071591c4162c434d9fd13bdf4b79583bd642ecaa0c8029baef80245ef41ac1e2"), looks := false }, kinds := [], alts := [], laidByText := true, laidKinds := [.data, .pinned], laidTests := true, laidLooks := .later }
def StagePlainUptoCardSaid : Prop := Claim7.holds Tryd.pinned (.plain (OpenSpec.upto stagePlainSpec)) stagePlainUptoCard
end Rows
end Go.Proofs.YtaglhmoldbndkaaDoor
