/-
  DERIVED. GIVEN WITH THE SEED: THE CARDS: each row of YtpiiljpbfioilaaDoorRows.lean that lists a variable, with what it lists TIED to the program's text (the seventh form; the later family's looks); each row that meets fmt, with fmt's text TOLD by the authors' own Lean function (tested against real Go, not proved from fmt's source: count such statements apart). THE CARD IS WHAT COUNTS. Prove the row's statement (the work); the ties are given (YtpiiljpbfioilaaDoorTie.lean); close each card by the builder's one call (the guide's Derived/Test/ToyasCard.lean, 'card_holds'). Laid BY PROGRAM, IN A SANDBOX (cutbox-door.mjs). By AI agents, Wed Nov 11 2026. No macro, syntax, notation, axiom, sorry.
-/
import Derived.Test.YtpiiljpbfioilaaDoorRows
import GoSem.ClaimSeven
namespace Go.Proofs.YtpiiljpbfioilaaDoor
namespace Rows

/-- THE TIED CARD OF 'armadalaw05.FilesTells'. -/
def filesTellsCard : Claim7 := { stood := { row := filesTellsRow, standIns := [], harness := (true, "ad7eeaf3160b7a5983c82c481f68a9d46b45579aa5a583470fce4ef559c7fc0c"), looks := false }, kinds := [], alts := [], laidByText := true, laidKinds := [.data, .pinned], laidTests := true, laidLooks := .later }
def FilesTellsCardSaid : Prop := Claim7.holds Tryd.pinned (.plain (OpenSpec.ofChange filesTellsSpec)) filesTellsCard

/-- THE TIED CARD OF 'armadalaw05.FilesChange'. -/
def filesChangeCard : Claim7 := { stood := { row := filesChangeRow, standIns := [], harness := (true, "ad7eeaf3160b7a5983c82c481f68a9d46b45579aa5a583470fce4ef559c7fc0c"), looks := false }, kinds := [], alts := [], laidByText := true, laidKinds := [.data, .pinned], laidTests := true, laidLooks := .later }
def FilesChangeCardSaid : Prop := Claim7.holds Tryd.pinned (.plain (OpenSpec.ofChange filesChangeSpec)) filesChangeCard

/-- THE TIED CARD OF 'armadalaw05.FilesCodes'. -/
def filesCodesCard : Claim7 := { stood := { row := filesCodesRow, standIns := [], harness := (true, "ad7eeaf3160b7a5983c82c481f68a9d46b45579aa5a583470fce4ef559c7fc0c"), looks := false }, kinds := [], alts := [], laidByText := true, laidKinds := [.data, .pinned], laidTests := true, laidLooks := .later }
def FilesCodesCardSaid : Prop := Claim7.holds Tryd.pinned (.plain (OpenSpec.ofChange filesCodesSpec)) filesCodesCard

/-- THE TIED CARD OF 'armadalaw05.FilesBack'. -/
def filesBackCard : Claim7 := { stood := { row := filesBackRow, standIns := [], harness := (true, "ad7eeaf3160b7a5983c82c481f68a9d46b45579aa5a583470fce4ef559c7fc0c"), looks := false }, kinds := [], alts := [], laidByText := true, laidKinds := [.data, .pinned], laidTests := true, laidLooks := .later }
def FilesBackCardSaid : Prop := Claim7.holds Tryd.pinned (.plain (OpenSpec.ofChange filesBackSpec)) filesBackCard

/-- THE TIED CARD OF 'armadalaw05.FilesOnce'. -/
def filesOnceCard : Claim7 := { stood := { row := filesOnceRow, standIns := [], harness := (true, "ad7eeaf3160b7a5983c82c481f68a9d46b45579aa5a583470fce4ef559c7fc0c"), looks := false }, kinds := [], alts := [], laidByText := true, laidKinds := [.data, .pinned], laidTests := true, laidLooks := .later }
def FilesOnceCardSaid : Prop := Claim7.holds Tryd.pinned (.plain (OpenSpec.ofChange filesOnceSpec)) filesOnceCard

/-- THE TIED CARD OF 'armadalaw05.FilesParts'. -/
def filesPartsCard : Claim7 := { stood := { row := filesPartsRow, standIns := [], harness := (true, "ad7eeaf3160b7a5983c82c481f68a9d46b45579aa5a583470fce4ef559c7fc0c"), looks := false }, kinds := [], alts := [], laidByText := true, laidKinds := [.data, .pinned], laidTests := true, laidLooks := .later }
def FilesPartsCardSaid : Prop := Claim7.holds Tryd.pinned (.plain (OpenSpec.ofChange filesPartsSpec)) filesPartsCard

/-- THE TIED CARD OF 'armadalaw05.FilesLeast'. -/
def filesLeastCard : Claim7 := { stood := { row := filesLeastRow, standIns := [], harness := (true, "ad7eeaf3160b7a5983c82c481f68a9d46b45579aa5a583470fce4ef559c7fc0c"), looks := false }, kinds := [], alts := [], laidByText := true, laidKinds := [.data, .pinned], laidTests := true, laidLooks := .later }
def FilesLeastCardSaid : Prop := Claim7.holds Tryd.pinned (.plain (OpenSpec.ofChange filesLeastSpec)) filesLeastCard

/-- THE TIED CARD OF 'armadalaw12.DigestTells'. -/
def digestTellsCard : Claim7 := { stood := { row := digestTellsRow, standIns := [], harness := (true, "ad7eeaf3160b7a5983c82c481f68a9d46b45579aa5a583470fce4ef559c7fc0c"), looks := false }, kinds := [], alts := [], laidByText := true, laidKinds := [.data, .data], laidTests := true, laidLooks := .later }
def DigestTellsCardSaid : Prop := Claim7.holds Tryd.pinned (.plain (OpenSpec.ofChange digestTellsSpec)) digestTellsCard

/-- THE TIED CARD OF 'armadalaw12.DigestBlocks'. -/
def digestBlocksCard : Claim7 := { stood := { row := digestBlocksRow, standIns := [], harness := (true, "ad7eeaf3160b7a5983c82c481f68a9d46b45579aa5a583470fce4ef559c7fc0c"), looks := false }, kinds := [], alts := [], laidByText := true, laidKinds := [.data, .data], laidTests := true, laidLooks := .later }
def DigestBlocksCardSaid : Prop := Claim7.holds Tryd.pinned (.plain (OpenSpec.ofChange digestBlocksSpec)) digestBlocksCard

/-- THE TIED CARD OF 'armadalaw12.DigestRoots'. -/
def digestRootsCard : Claim7 := { stood := { row := digestRootsRow, standIns := [], harness := (true, "ad7eeaf3160b7a5983c82c481f68a9d46b45579aa5a583470fce4ef559c7fc0c"), looks := false }, kinds := [], alts := [], laidByText := true, laidKinds := [.data, .data], laidTests := true, laidLooks := .later }
def DigestRootsCardSaid : Prop := Claim7.holds Tryd.pinned (.plain (OpenSpec.ofChange digestRootsSpec)) digestRootsCard

/-- THE TIED CARD OF 'armadalaw12.DigestPads'. -/
def digestPadsCard : Claim7 := { stood := { row := digestPadsRow, standIns := [], harness := (true, "ad7eeaf3160b7a5983c82c481f68a9d46b45579aa5a583470fce4ef559c7fc0c"), looks := false }, kinds := [], alts := [], laidByText := true, laidKinds := [.data, .data], laidTests := true, laidLooks := .later }
def DigestPadsCardSaid : Prop := Claim7.holds Tryd.pinned (.plain (OpenSpec.ofChange digestPadsSpec)) digestPadsCard

/-- THE TIED CARD OF 'armadalaw12.DigestHex'. -/
def digestHexCard : Claim7 := { stood := { row := digestHexRow, standIns := [], harness := (true, "ad7eeaf3160b7a5983c82c481f68a9d46b45579aa5a583470fce4ef559c7fc0c"), looks := false }, kinds := [], alts := [], laidByText := true, laidKinds := [.data, .data], laidTests := true, laidLooks := .later }
def DigestHexCardSaid : Prop := Claim7.holds Tryd.pinned (.plain (OpenSpec.ofChange digestHexSpec)) digestHexCard

/-- THE SECOND FORM's CARD OF 'armadalaw05.FilesTells'. -/
def filesTellsUptoCard : Claim7 := { stood := { row := filesTellsUptoRow, standIns := [], harness := (true, "ad7eeaf3160b7a5983c82c481f68a9d46b45579aa5a583470fce4ef559c7fc0c"), looks := false }, kinds := [], alts := [], laidByText := true, laidKinds := [.data, .pinned], laidTests := true, laidLooks := .later }
def FilesTellsUptoCardSaid : Prop := Claim7.holds Tryd.pinned (.plain (OpenSpec.upto filesTellsSpec)) filesTellsUptoCard

/-- THE SECOND FORM's CARD OF 'armadalaw05.FilesChange'. -/
def filesChangeUptoCard : Claim7 := { stood := { row := filesChangeUptoRow, standIns := [], harness := (true, "ad7eeaf3160b7a5983c82c481f68a9d46b45579aa5a583470fce4ef559c7fc0c"), looks := false }, kinds := [], alts := [], laidByText := true, laidKinds := [.data, .pinned], laidTests := true, laidLooks := .later }
def FilesChangeUptoCardSaid : Prop := Claim7.holds Tryd.pinned (.plain (OpenSpec.upto filesChangeSpec)) filesChangeUptoCard

/-- THE SECOND FORM's CARD OF 'armadalaw05.FilesCodes'. -/
def filesCodesUptoCard : Claim7 := { stood := { row := filesCodesUptoRow, standIns := [], harness := (true, "ad7eeaf3160b7a5983c82c481f68a9d46b45579aa5a583470fce4ef559c7fc0c"), looks := false }, kinds := [], alts := [], laidByText := true, laidKinds := [.data, .pinned], laidTests := true, laidLooks := .later }
def FilesCodesUptoCardSaid : Prop := Claim7.holds Tryd.pinned (.plain (OpenSpec.upto filesCodesSpec)) filesCodesUptoCard

/-- THE SECOND FORM's CARD OF 'armadalaw05.FilesBack'. -/
def filesBackUptoCard : Claim7 := { stood := { row := filesBackUptoRow, standIns := [], harness := (true, "ad7eeaf3160b7a5983c82c481f68a9d46b45579aa5a583470fce4ef559c7fc0c"), looks := false }, kinds := [], alts := [], laidByText := true, laidKinds := [.data, .pinned], laidTests := true, laidLooks := .later }
def FilesBackUptoCardSaid : Prop := Claim7.holds Tryd.pinned (.plain (OpenSpec.upto filesBackSpec)) filesBackUptoCard

/-- THE SECOND FORM's CARD OF 'armadalaw05.FilesOnce'. -/
def filesOnceUptoCard : Claim7 := { stood := { row := filesOnceUptoRow, standIns := [], harness := (true, "ad7eeaf3160b7a5983c82c481f68a9d46b45579aa5a583470fce4ef559c7fc0c"), looks := false }, kinds := [], alts := [], laidByText := true, laidKinds := [.data, .pinned], laidTests := true, laidLooks := .later }
def FilesOnceUptoCardSaid : Prop := Claim7.holds Tryd.pinned (.plain (OpenSpec.upto filesOnceSpec)) filesOnceUptoCard

/-- THE SECOND FORM's CARD OF 'armadalaw05.FilesParts'. -/
def filesPartsUptoCard : Claim7 := { stood := { row := filesPartsUptoRow, standIns := [], harness := (true, "ad7eeaf3160b7a5983c82c481f68a9d46b45579aa5a583470fce4ef559c7fc0c"), looks := false }, kinds := [], alts := [], laidByText := true, laidKinds := [.data, .pinned], laidTests := true, laidLooks := .later }
def FilesPartsUptoCardSaid : Prop := Claim7.holds Tryd.pinned (.plain (OpenSpec.upto filesPartsSpec)) filesPartsUptoCard

/-- THE SECOND FORM's CARD OF 'armadalaw05.FilesLeast'. -/
def filesLeastUptoCard : Claim7 := { stood := { row := filesLeastUptoRow, standIns := [], harness := (true, "ad7eeaf3160b7a5983c82c481f68a9d46b45579aa5a583470fce4ef559c7fc0c"), looks := false }, kinds := [], alts := [], laidByText := true, laidKinds := [.data, .pinned], laidTests := true, laidLooks := .later }
def FilesLeastUptoCardSaid : Prop := Claim7.holds Tryd.pinned (.plain (OpenSpec.upto filesLeastSpec)) filesLeastUptoCard

/-- THE SECOND FORM's CARD OF 'armadalaw12.DigestTells'. -/
def digestTellsUptoCard : Claim7 := { stood := { row := digestTellsUptoRow, standIns := [], harness := (true, "ad7eeaf3160b7a5983c82c481f68a9d46b45579aa5a583470fce4ef559c7fc0c"), looks := false }, kinds := [], alts := [], laidByText := true, laidKinds := [.data, .data], laidTests := true, laidLooks := .later }
def DigestTellsUptoCardSaid : Prop := Claim7.holds Tryd.pinned (.plain (OpenSpec.upto digestTellsSpec)) digestTellsUptoCard

/-- THE SECOND FORM's CARD OF 'armadalaw12.DigestBlocks'. -/
def digestBlocksUptoCard : Claim7 := { stood := { row := digestBlocksUptoRow, standIns := [], harness := (true, "ad7eeaf3160b7a5983c82c481f68a9d46b45579aa5a583470fce4ef559c7fc0c"), looks := false }, kinds := [], alts := [], laidByText := true, laidKinds := [.data, .data], laidTests := true, laidLooks := .later }
def DigestBlocksUptoCardSaid : Prop := Claim7.holds Tryd.pinned (.plain (OpenSpec.upto digestBlocksSpec)) digestBlocksUptoCard

/-- THE SECOND FORM's CARD OF 'armadalaw12.DigestRoots'. -/
def digestRootsUptoCard : Claim7 := { stood := { row := digestRootsUptoRow, standIns := [], harness := (true, "ad7eeaf3160b7a5983c82c481f68a9d46b45579aa5a583470fce4ef559c7fc0c"), looks := false }, kinds := [], alts := [], laidByText := true, laidKinds := [.data, .data], laidTests := true, laidLooks := .later }
def DigestRootsUptoCardSaid : Prop := Claim7.holds Tryd.pinned (.plain (OpenSpec.upto digestRootsSpec)) digestRootsUptoCard

/-- THE SECOND FORM's CARD OF 'armadalaw12.DigestPads'. -/
def digestPadsUptoCard : Claim7 := { stood := { row := digestPadsUptoRow, standIns := [], harness := (true, "ad7eeaf3160b7a5983c82c481f68a9d46b45579aa5a583470fce4ef559c7fc0c"), looks := false }, kinds := [], alts := [], laidByText := true, laidKinds := [.data, .data], laidTests := true, laidLooks := .later }
def DigestPadsUptoCardSaid : Prop := Claim7.holds Tryd.pinned (.plain (OpenSpec.upto digestPadsSpec)) digestPadsUptoCard

/-- THE SECOND FORM's CARD OF 'armadalaw12.DigestHex'. -/
def digestHexUptoCard : Claim7 := { stood := { row := digestHexUptoRow, standIns := [], harness := (true, "ad7eeaf3160b7a5983c82c481f68a9d46b45579aa5a583470fce4ef559c7fc0c"), looks := false }, kinds := [], alts := [], laidByText := true, laidKinds := [.data, .data], laidTests := true, laidLooks := .later }
def DigestHexUptoCardSaid : Prop := Claim7.holds Tryd.pinned (.plain (OpenSpec.upto digestHexSpec)) digestHexUptoCard
end Rows
end Go.Proofs.YtpiiljpbfioilaaDoor
