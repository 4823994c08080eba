/- The walk of the law on acts in two parts, whole. -/
import Derived.Test.YtgijhddmadaplaaDiskV1
import Derived.Test.YtgijhddmadaplaaDiskV
namespace Go.Proofs.Ytgijhddmadaplaa
open Go.RowKit
set_option linter.unusedVariables false
namespace DiskW
theorem parts_walk (a1 : Option Addr) (n k1 : Nat) (a2 : Option Addr) (m k2 : Nat) (d : DM.Dk) (a3 : Option Addr) (k3 : Nat) (l : List DM.Ac) (x : Int) (w : World) (H0 : DM.DV w (.slice a1 n k1) (.slice a2 m k2) d) (b1 : n ≤ 9223372036854775807) (b2 : m ≤ 9223372036854775807) (HA0 : DM.AV w (.slice a3 l.length k3) l) (b3 : l.length ≤ 9223372036854775807) :
    Calls Try.prog 12 #[.agg #[.slice a1 n k1, .slice a2 m k2], .slice a3 l.length k3, .int .i64 x] w fun e w' => e = .returned (.bool true) ∧ Below w.heap.size w w' := by
  by_cases hno : ¬ DM.smallD d ∨ ¬ DM.fewA l ∨ x < 0 ∨ (l.length : Int) < x
  · exact parts_out a1 n k1 a2 m k2 d a3 k3 l x w H0 b1 b2 HA0 b3 hno
  · have hsm : DM.smallD d := Classical.byContradiction fun h => hno (Or.inl h)
    have hfew : DM.fewA l := Classical.byContradiction fun h => hno (Or.inr (Or.inl h))
    have h0 : ¬ x < 0 := fun h => hno (Or.inr (Or.inr (Or.inl h)))
    have h1 : ¬ (l.length : Int) < x := fun h => hno (Or.inr (Or.inr (Or.inr h)))
    obtain ⟨N, rfl⟩ : ∃ N : Nat, x = (N : Int) := ⟨x.toNat, by omega⟩
    by_cases hk : k3 = N
    · have hc : l.length ≤ k3 := by
        obtain ⟨a', c', e, g1, g2, _⟩ := HA0
        simp only [Value.slice.injEq] at e
        omega
      obtain rfl : k3 = l.length := by omega
      obtain rfl : N = l.length := by omega
      exact parts_in1 a1 n k1 a2 m k2 d a3 l w H0 HA0 hsm hfew
    · exact parts_in2 a1 n k1 a2 m k2 d a3 k3 l N w H0 HA0 hsm hfew (by omega) hk
end DiskW
end Go.Proofs.Ytgijhddmadaplaa
