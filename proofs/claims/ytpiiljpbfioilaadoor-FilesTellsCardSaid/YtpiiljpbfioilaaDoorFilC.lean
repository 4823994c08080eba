/- Layer 5: what is known of old memory (one variable of the library); short forms. -/
import Derived.Test.YtpiiljpbfioilaaDoorSeq
import Derived.Test.YtpiiljpbfioilaaDoorCard
namespace Go.Proofs
open Go.RowKit Go.Shelf Go.Lib
set_option linter.unusedVariables false
set_option linter.unusedSimpArgs false
namespace YtpiiljpbfioilaaDoor.AM
/-- what is known of the library's variables -/
structure Inv (w : World) : Prop where
  maxLen : ∃ m, w.cell? ⟨Tryd.laysIndex_ren.g 1, 0, none⟩ = some (.int .i64 m)
theorem Inv.below {w w' : World} (h : Inv w) (hb : Below w.heap.size w w') : Inv w' := by
  obtain ⟨⟨m, hm⟩⟩ := h
  exact ⟨⟨m, (hb.cell (p := ⟨_, 0, none⟩) (World.block_lt_of_cell? _ _ hm)).trans hm⟩⟩
theorem inv_of {w : World} (hsh : w.ShapedOpen Tryd.prog) : Inv w := ⟨Tryd.laysIndex.s1_3 w hsh⟩
theorem know_inv : Know Inv Inv := ⟨fun w w' h hb => h.below hb, fun _ h => h⟩
variable {P : Program}
theorem pc_done {Pc : Nat → Nat → Prop} {w w' : World} {v : Value} {d : D} {e : Ending} (he : e = .returned v) (hb : Below w.heap.size w w') (hv : DRep (noEnv Pc) noSt w' v d) :
    ∃ v' Pc', e = .returned v' ∧ Below w.heap.size w w' ∧ (∀ b o, Pc b o → Pc' b o) ∧ (∀ b o, Pc' b o → Pc b o ∨ (w.heap.size ≤ b ∧ b < w'.heap.size)) ∧ DRep (noEnv Pc') noSt w' v' d :=
  ⟨v, Pc, he, hb, fun _ _ h => h, fun _ _ h => Or.inl h, hv⟩
abbrev strA : SD := .one (.c (.d .str))
abbrev intA : SD := .one (.c (.d (.int .i64)))
abbrev boolA : SD := .one (.c (.d .bool))
end YtpiiljpbfioilaaDoor.AM
end Go.Proofs
