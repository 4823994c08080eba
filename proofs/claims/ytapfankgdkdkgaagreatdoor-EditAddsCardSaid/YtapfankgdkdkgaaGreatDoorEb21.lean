
import Derived.Test.YtapfankgdkdkgaaGreatDoorEb20
namespace Go.Proofs.YtapfankgdkdkgaaGreatDoor.AM
open Go.RowKit
set_option linter.unusedVariables false
set_option maxRecDepth 20000
end Go.Proofs.YtapfankgdkdkgaaGreatDoor.AM
