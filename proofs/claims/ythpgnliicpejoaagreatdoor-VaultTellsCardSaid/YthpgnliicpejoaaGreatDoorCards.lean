/-
  DERIVED. GIVEN WITH THE SEED: THE CARDS: each row of YthpgnliicpejoaaGreatDoorRows.lean that lists a variable, with what it lists TIED to the program's text (the seventh form; the later family's looks); each row that meets fmt, with fmt's text TOLD by the authors' own Lean function (tested against real Go, not proved from fmt's source: count such statements apart). THE CARD IS WHAT COUNTS. Prove the row's statement (the work); the ties are given (YthpgnliicpejoaaGreatDoorTie.lean); close each card by the builder's one call (the guide's Derived/Test/ToyasCard.lean, 'card_holds'). Laid BY PROGRAM, IN A SANDBOX (cutbox-door.mjs). By AI agents, Wed Nov 11 2026. No macro, syntax, notation, axiom, sorry.
-/
import Derived.Test.YthpgnliicpejoaaGreatDoorRows
import GoSem.ClaimSeven
namespace Go.Proofs.YthpgnliicpejoaaGreatDoor
namespace Rows

/-- THE TIED CARD OF 'armadalaw06.VaultTells'. -/
def vaultTellsCard : Claim7 := { stood := { row := vaultTellsRow, standIns := [], harness := (true, "d09a7af72d15e4888051eaecb54699ad4d2ce620e32ba277d8b642fd9b7c1f57"), looks := true }, kinds := [], alts := [], laidByText := true, laidKinds := [.data, .handle, .pinned], laidTests := true, laidLooks := .later }
def VaultTellsCardSaid : Prop := Claim7.holds Tryz.pinned (.plain (OpenSpec.ofChange vaultTellsSpec)) vaultTellsCard

/-- THE TIED CARD OF 'armadalaw06.VaultCrash'. -/
def vaultCrashCard : Claim7 := { stood := { row := vaultCrashRow, standIns := [], harness := (true, "d09a7af72d15e4888051eaecb54699ad4d2ce620e32ba277d8b642fd9b7c1f57"), looks := true }, kinds := [], alts := [], laidByText := true, laidKinds := [.data, .handle, .pinned], laidTests := true, laidLooks := .later }
def VaultCrashCardSaid : Prop := Claim7.holds Tryz.pinned (.plain (OpenSpec.ofChange vaultCrashSpec)) vaultCrashCard

/-- THE TIED CARD OF 'armadalaw06.VaultErrors'. -/
def vaultErrorsCard : Claim7 := { stood := { row := vaultErrorsRow, standIns := [], harness := (true, "d09a7af72d15e4888051eaecb54699ad4d2ce620e32ba277d8b642fd9b7c1f57"), looks := true }, kinds := [], alts := [], laidByText := true, laidKinds := [.data, .handle, .pinned], laidTests := true, laidLooks := .later }
def VaultErrorsCardSaid : Prop := Claim7.holds Tryz.pinned (.plain (OpenSpec.ofChange vaultErrorsSpec)) vaultErrorsCard

/-- THE TIED CARD OF 'armadalaw06.VaultRow'. -/
def vaultRowCard : Claim7 := { stood := { row := vaultRowRow, standIns := [], harness := (true, "d09a7af72d15e4888051eaecb54699ad4d2ce620e32ba277d8b642fd9b7c1f57"), looks := true }, kinds := [], alts := [], laidByText := true, laidKinds := [.data, .handle, .pinned], laidTests := true, laidLooks := .later }
def VaultRowCardSaid : Prop := Claim7.holds Tryz.pinned (.plain (OpenSpec.ofChange vaultRowSpec)) vaultRowCard

/-- THE TIED CARD OF 'armadalaw06.VaultAgain'. -/
def vaultAgainCard : Claim7 := { stood := { row := vaultAgainRow, standIns := [], harness := (true, "d09a7af72d15e4888051eaecb54699ad4d2ce620e32ba277d8b642fd9b7c1f57"), looks := true }, kinds := [], alts := [], laidByText := true, laidKinds := [.data, .handle, .pinned], laidTests := true, laidLooks := .later }
def VaultAgainCardSaid : Prop := Claim7.holds Tryz.pinned (.plain (OpenSpec.ofChange vaultAgainSpec)) vaultAgainCard

/-- THE SECOND FORM's CARD OF 'armadalaw06.VaultTells'. -/
def vaultTellsUptoCard : Claim7 := { stood := { row := vaultTellsUptoRow, standIns := [], harness := (true, "d09a7af72d15e4888051eaecb54699ad4d2ce620e32ba277d8b642fd9b7c1f57"), looks := true }, kinds := [], alts := [], laidByText := true, laidKinds := [.data, .handle, .pinned], laidTests := true, laidLooks := .later }
def VaultTellsUptoCardSaid : Prop := Claim7.holds Tryz.pinned (.plain (OpenSpec.upto vaultTellsSpec)) vaultTellsUptoCard

/-- THE SECOND FORM's CARD OF 'armadalaw06.VaultCrash'. -/
def vaultCrashUptoCard : Claim7 := { stood := { row := vaultCrashUptoRow, standIns := [], harness := (true, "d09a7af72d15e4888051eaecb54699ad4d2ce620e32ba277d8b642fd9b7c1f57"), looks := true }, kinds := [], alts := [], laidByText := true, laidKinds := [.data, .handle, .pinned], laidTests := true, laidLooks := .later }
def VaultCrashUptoCardSaid : Prop := Claim7.holds Tryz.pinned (.plain (OpenSpec.upto vaultCrashSpec)) vaultCrashUptoCard

/-- THE SECOND FORM's CARD OF 'armadalaw06.VaultErrors'. -/
def vaultErrorsUptoCard : Claim7 := { stood := { row := vaultErrorsUptoRow, standIns := [], harness := (true, "d09a7af72d15e4888051eaecb54699ad4d2ce620e32ba277d8b642fd9b7c1f57"), looks := true }, kinds := [], alts := [], laidByText := true, laidKinds := [.data, .handle, .pinned], laidTests := true, laidLooks := .later }
def VaultErrorsUptoCardSaid : Prop := Claim7.holds Tryz.pinned (.plain (OpenSpec.upto vaultErrorsSpec)) vaultErrorsUptoCard

/-- THE SECOND FORM's CARD OF 'armadalaw06.VaultRow'. -/
def vaultRowUptoCard : Claim7 := { stood := { row := vaultRowUptoRow, standIns := [], harness := (true, "d09a7af72d15e4888051eaecb54699ad4d2ce620e32ba277d8b642fd9b7c1f57"), looks := true }, kinds := [], alts := [], laidByText := true, laidKinds := [.data, .handle, .pinned], laidTests := true, laidLooks := .later }
def VaultRowUptoCardSaid : Prop := Claim7.holds Tryz.pinned (.plain (OpenSpec.upto vaultRowSpec)) vaultRowUptoCard

/-- THE SECOND FORM's CARD OF 'armadalaw06.VaultAgain'. -/
def vaultAgainUptoCard : Claim7 := { stood := { row := vaultAgainUptoRow, standIns := [], harness := (true, "d09a7af72d15e4888051eaecb54699ad4d2ce620e32ba277d8b642fd9b7c1f57"), looks := true }, kinds := [], alts := [], laidByText := true, laidKinds := [.data, .handle, .pinned], laidTests := true, laidLooks := .later }
def VaultAgainUptoCardSaid : Prop := Claim7.holds Tryz.pinned (.plain (OpenSpec.upto vaultAgainSpec)) vaultAgainUptoCard
end Rows
end Go.Proofs.YthpgnliicpejoaaGreatDoor
