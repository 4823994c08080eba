/-
  DERIVED. GIVEN WITH THE SEED: THE CARDS: each row of YtgdlfnlakfahcaaDoorRows.lean that lists a variable, with what it lists TIED to the program's text (the seventh form; the later family's looks); each row that meets fmt, with fmt's text TOLD by the authors' own Lean function (tested against real Go, not proved from fmt's source: count such statements apart). THE CARD IS WHAT COUNTS. Prove the row's statement (the work); the ties are given (YtgdlfnlakfahcaaDoorTie.lean); close each card by the builder's one call (the guide's Derived/Test/ToyasCard.lean, 'card_holds'). Laid BY PROGRAM, IN A SANDBOX (cutbox-door.mjs). By AI agents, Wed Nov 11 2026. No macro, syntax, notation, axiom, sorry.
-/
import Derived.Test.YtgdlfnlakfahcaaDoorRows
import GoSem.ClaimSeven
namespace Go.Proofs.YtgdlfnlakfahcaaDoor
namespace Rows

/-- THE TIED CARD OF 'armadalaw16.GraphNames'. -/
def graphNamesCard : Claim7 := { stood := { row := graphNamesRow, standIns := [], harness := (true, "10f8dbbc642a65ae2475111d83f727d437fbba124fbe611dceda3a3e1e70971a"), looks := true }, kinds := [], alts := [], laidByText := true, laidKinds := [.data, .data, .data, .data, .sentinel, .sentinel, .pinned], laidTests := true, laidLooks := .later }
def GraphNamesCardSaid : Prop := Claim7.holds Tryd.pinned (.plain (OpenSpec.ofChange graphNamesSpec)) graphNamesCard

/-- THE SECOND FORM's CARD OF 'armadalaw16.GraphNames'. -/
def graphNamesUptoCard : Claim7 := { stood := { row := graphNamesUptoRow, standIns := [], harness := (true, "10f8dbbc642a65ae2475111d83f727d437fbba124fbe611dceda3a3e1e70971a"), looks := true }, kinds := [], alts := [], laidByText := true, laidKinds := [.data, .data, .data, .data, .sentinel, .sentinel, .pinned], laidTests := true, laidLooks := .later }
def GraphNamesUptoCardSaid : Prop := Claim7.holds Tryd.pinned (.plain (OpenSpec.upto graphNamesSpec)) graphNamesUptoCard
end Rows
end Go.Proofs.YtgdlfnlakfahcaaDoor
