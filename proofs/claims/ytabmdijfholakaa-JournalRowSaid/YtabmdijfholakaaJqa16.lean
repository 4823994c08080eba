/- The contract of the laws' question whether acts are few. -/
import Derived.Test.YtabmdijfholakaaJqa15
namespace Go.Proofs.Ytabmdijfholakaa
open Go.RowKit
set_option linter.unusedVariables false
namespace DM
def fewA (l : List Ac) : Prop := l.length ≤ 200 ∧ ∀ a ∈ l, a.2.2.size ≤ 100
instance (l : List Ac) : Decidable (fewA l) := by unfold fewA; infer_instance
end DM
namespace DiskW
end DiskW
end Go.Proofs.Ytabmdijfholakaa
