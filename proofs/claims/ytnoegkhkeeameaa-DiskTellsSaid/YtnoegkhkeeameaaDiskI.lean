/- The contract of disk's Same. -/
import Derived.Test.YtnoegkhkeeameaaDiskH
namespace Go.Proofs.Ytnoegkhkeeameaa
open Go.RowKit
set_option linter.unusedVariables false
namespace DiskW
theorem dk_eq (x y : DM.Dk) : x = y ↔ x.secs = y.secs ∧ x.cache = y.cache := by cases x; cases y; simp
set_option maxHeartbeats 1600000 in
set_option maxRecDepth 100000 in
theorem same_any (a1 a2 a3 a4 : Option Addr) (n1 k1 n2 k2 n3 k3 n4 k4 : Nat) (d1 d2 : DM.Dk) (w : World) (h1 : DM.DV w (.slice a1 n1 k1) (.slice a2 n2 k2) d1) (h2 : DM.DV w (.slice a3 n3 k3) (.slice a4 n4 k4) d2)
    (b1 : d1.secs.length ≤ 1000000) (b2 : d1.cache.length ≤ 1000000) (b3 : d2.secs.length ≤ 1000000) (b4 : d2.cache.length ≤ 1000000) :
    Calls Try.prog 36 #[.agg #[.slice a1 n1 k1, .slice a2 n2 k2], .agg #[.slice a3 n3 k3, .slice a4 n4 k4]] w fun e w' => e = .returned (.bool (decide (d1 = d2))) ∧ Below w.heap.size w w' := by
  obtain ⟨x, hx⟩ : ∃ x, decide (d1.secs = d2.secs) = x := ⟨_, rfl⟩
  obtain ⟨y, hy⟩ : ∃ y, decide (d1.cache = d2.cache) = y := ⟨_, rfl⟩
  have C1 : Hid (∀ w', RM.SV w' (.slice a1 n1 k1) d1.secs → RM.SV w' (.slice a3 n3 k3) d2.secs → Calls Try.prog 59 #[.slice a1 n1 k1, .slice a3 n3 k3] w' fun e w'' => e = .returned (.bool x) ∧ ∃ q, w'' = w'.drewN q) := Lib.hid (fun w' h1 h2 => by
    have := RecW.eq_any w' _ _ _ _ h1 h2 (by omega) (by omega)
    rw [hx] at this
    exact this)
  have C2 : Hid (∀ w', DM.WV w' (.slice a2 n2 k2) d1.cache → DM.WV w' (.slice a4 n4 k4) d2.cache → Calls Try.prog 60 #[.slice a2 n2 k2, .slice a4 n4 k4] w' fun e w'' => e = .returned (.bool y) ∧ ∃ q, w'' = w'.drewN q) := Lib.hid (fun w' h1 h2 => by
    have := eqW_any w' _ _ _ _ h1 h2 (by omega) (by omega)
    rw [hy] at this
    exact this)
  have hz : decide (d1 = d2) = (x && y) := by
    rw [← hx, ← hy, Bool.eq_iff_iff]
    simp [dk_eq]
  rw [hz]
  have H1 := Lib.hid h1
  have H2 := Lib.hid h2
  clear h1 h2 hx hy hz
  cases x
  all_goals
    go_enter Try.func36, Try.ntmps36
    go_wp2_with fail
    have V := Lib.hid (DM.Var.two w (.slice a1 n1 k1) (.slice a2 n2 k2) (.slice a3 n3 k3) (.slice a4 n4 k4) 25)
    have B0 : Hid (Below w.heap.size w ((w.alloc (.cells #[.slice a1 n1 k1, .slice a2 n2 k2] 25)).alloc (.cells #[.slice a3 n3 k3, .slice a4 n4 k4] 25))) := Lib.hid (DM.below_two w _ _)
    generalize hW0 : (w.alloc (.cells #[.slice a1 n1 k1, .slice a2 n2 k2] 25)).alloc (.cells #[.slice a3 n3 k3, .slice a4 n4 k4] 25) = W0 at *
    clear hW0
    have D1 := Lib.hid (H1.out.below B0.out)
    have D2 := Lib.hid (H2.out.below B0.out)
    have c0 := V.out.1.c0
    have c1 := V.out.1.c1
    have c2 := V.out.2.c0
    have c3 := V.out.2.c1
    refine (C1.out _ D1.out.1 D2.out.1).mono ?_; rintro e w1 ⟨rfl, q, rfl⟩
    go_wp2_with fail
  · go_ret
    exact ⟨rfl, Lib.below_drewN B0.out _⟩
  · refine (C2.out _ (DM.WV.drewN D1.out.2 _) (DM.WV.drewN D2.out.2 _)).mono ?_; rintro e w1 ⟨rfl, q2, rfl⟩
    go_wp2_with fail
    go_ret
    exact ⟨rfl, Lib.below_drewN B0.out _⟩
end DiskW
end Go.Proofs.Ytnoegkhkeeameaa
