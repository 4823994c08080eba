/-
  DERIVED. GIVEN WITH THE SEED: THE CARDS: each row of YtngbpbncipjimabGreatDoorRows.lean that lists a variable, with what it lists TIED to the program's text (the seventh form; the later family's looks); each row that meets fmt, with fmt's text TOLD by the authors' own Lean function (tested against real Go, not proved from fmt's source: count such statements apart). THE CARD IS WHAT COUNTS. Prove the row's statement (the work); the ties are given (YtngbpbncipjimabGreatDoorTie.lean); close each card by the builder's one call (the guide's Derived/Test/ToyasCard.lean, 'card_holds'). Laid BY PROGRAM, IN A SANDBOX (cutbox-door.mjs). By AI agents, Wed Nov 11 2026. No macro, syntax, notation, axiom, sorry.
-/
import Derived.Test.YtngbpbncipjimabGreatDoorRows
import GoSem.ClaimSeven
namespace Go.Proofs.YtngbpbncipjimabGreatDoor
namespace Rows

/-- THE TIED CARD OF 'armadalaw14.TreeOwned'. -/
def treeOwnedCard : Claim7 := { stood := { row := treeOwnedRow, standIns := [], harness := (true, "f788a09ead83da8175f72e4fdcc19623057a1317fc6a30481e6a14526f086de0"), looks := false }, kinds := [], alts := [], laidByText := true, laidKinds := [.data, .data, .data, .pinned], laidTests := true, laidLooks := .later }
def TreeOwnedCardSaid : Prop := Claim7.holds Tryz.pinned (.plain (OpenSpec.ofChange treeOwnedSpec)) treeOwnedCard

/-- THE TIED CARD OF 'armadalaw14.TreeChanges'. -/
def treeChangesCard : Claim7 := { stood := { row := treeChangesRow, standIns := [], harness := (true, "f788a09ead83da8175f72e4fdcc19623057a1317fc6a30481e6a14526f086de0"), looks := false }, kinds := [], alts := [], laidByText := true, laidKinds := [.data, .data, .data, .pinned], laidTests := true, laidLooks := .later }
def TreeChangesCardSaid : Prop := Claim7.holds Tryz.pinned (.plain (OpenSpec.ofChange treeChangesSpec)) treeChangesCard

/-- THE TIED CARD OF 'armadalaw14.TreeDirs'. -/
def treeDirsCard : Claim7 := { stood := { row := treeDirsRow, standIns := [], harness := (true, "f788a09ead83da8175f72e4fdcc19623057a1317fc6a30481e6a14526f086de0"), looks := false }, kinds := [], alts := [], laidByText := true, laidKinds := [.data, .data, .data, .pinned], laidTests := true, laidLooks := .later }
def TreeDirsCardSaid : Prop := Claim7.holds Tryz.pinned (.plain (OpenSpec.ofChange treeDirsSpec)) treeDirsCard

/-- THE TIED CARD OF 'armadalaw14.TreeHashes'. -/
def treeHashesCard : Claim7 := { stood := { row := treeHashesRow, standIns := [], harness := (true, "f788a09ead83da8175f72e4fdcc19623057a1317fc6a30481e6a14526f086de0"), looks := false }, kinds := [], alts := [], laidByText := true, laidKinds := [.data, .data, .data, .pinned], laidTests := true, laidLooks := .later }
def TreeHashesCardSaid : Prop := Claim7.holds Tryz.pinned (.plain (OpenSpec.ofChange treeHashesSpec)) treeHashesCard

/-- THE SECOND FORM's CARD OF 'armadalaw14.TreeOwned'. -/
def treeOwnedUptoCard : Claim7 := { stood := { row := treeOwnedUptoRow, standIns := [], harness := (true, "f788a09ead83da8175f72e4fdcc19623057a1317fc6a30481e6a14526f086de0"), looks := false }, kinds := [], alts := [], laidByText := true, laidKinds := [.data, .data, .data, .pinned], laidTests := true, laidLooks := .later }
def TreeOwnedUptoCardSaid : Prop := Claim7.holds Tryz.pinned (.plain (OpenSpec.upto treeOwnedSpec)) treeOwnedUptoCard

/-- THE SECOND FORM's CARD OF 'armadalaw14.TreeChanges'. -/
def treeChangesUptoCard : Claim7 := { stood := { row := treeChangesUptoRow, standIns := [], harness := (true, "f788a09ead83da8175f72e4fdcc19623057a1317fc6a30481e6a14526f086de0"), looks := false }, kinds := [], alts := [], laidByText := true, laidKinds := [.data, .data, .data, .pinned], laidTests := true, laidLooks := .later }
def TreeChangesUptoCardSaid : Prop := Claim7.holds Tryz.pinned (.plain (OpenSpec.upto treeChangesSpec)) treeChangesUptoCard

/-- THE SECOND FORM's CARD OF 'armadalaw14.TreeDirs'. -/
def treeDirsUptoCard : Claim7 := { stood := { row := treeDirsUptoRow, standIns := [], harness := (true, "f788a09ead83da8175f72e4fdcc19623057a1317fc6a30481e6a14526f086de0"), looks := false }, kinds := [], alts := [], laidByText := true, laidKinds := [.data, .data, .data, .pinned], laidTests := true, laidLooks := .later }
def TreeDirsUptoCardSaid : Prop := Claim7.holds Tryz.pinned (.plain (OpenSpec.upto treeDirsSpec)) treeDirsUptoCard

/-- THE SECOND FORM's CARD OF 'armadalaw14.TreeHashes'. -/
def treeHashesUptoCard : Claim7 := { stood := { row := treeHashesUptoRow, standIns := [], harness := (true, "f788a09ead83da8175f72e4fdcc19623057a1317fc6a30481e6a14526f086de0"), looks := false }, kinds := [], alts := [], laidByText := true, laidKinds := [.data, .data, .data, .pinned], laidTests := true, laidLooks := .later }
def TreeHashesUptoCardSaid : Prop := Claim7.holds Tryz.pinned (.plain (OpenSpec.upto treeHashesSpec)) treeHashesUptoCard
end Rows
end Go.Proofs.YtngbpbncipjimabGreatDoor
