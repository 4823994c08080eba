/- The contract of the document's text of a head. -/
import Derived.Test.YtabmdijfholakaaJqa9
namespace Go.Proofs.Ytabmdijfholakaa
open Go.RowKit
attribute [local go_sem ↓] Go.wp_at_zero Go.wp_at_succ
namespace RecW
end RecW
end Go.Proofs.Ytabmdijfholakaa
