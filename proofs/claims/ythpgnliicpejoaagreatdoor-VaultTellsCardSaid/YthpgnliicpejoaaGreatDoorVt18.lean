
import Derived.Test.YthpgnliicpejoaaGreatDoorVt7
namespace Go.Proofs.YthpgnliicpejoaaGreatDoor
open Go.RowKit
attribute [local go_sem ↓] Go.wp_at_zero Go.wp_at_succ
namespace RecW
end RecW
end Go.Proofs.YthpgnliicpejoaaGreatDoor
