/- The contract of disk's Run. -/
import Derived.Test.YtabmdijfholakaaJqa15
namespace Go.Proofs.Ytabmdijfholakaa
open Go.RowKit
set_option linter.unusedVariables false
namespace DM
theorem Var.set2 {w : World} {b : Nat} {x y u v : Value} (h : Var w b x y) : Var ((w.setCell ⟨b, 0, none⟩ u).setCell ⟨b, 1, none⟩ v) b u v := by
  have hb := DiskW.box_set2 (u := u) (v := v) h.c0 h.c1
  exact ⟨hb.1, hb.2.1, hb.2.2, by rw [World.frozen?_setCell, World.frozen?_setCell]; exact h.f0, by rw [World.frozen?_setCell, World.frozen?_setCell]; exact h.f1⟩
end DM
namespace DiskW
end DiskW
end Go.Proofs.Ytabmdijfholakaa
