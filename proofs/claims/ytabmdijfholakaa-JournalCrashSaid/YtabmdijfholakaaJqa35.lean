/- For rows that list variables: the frame that hands on the world's shape. -/
import Derived.Handed
import Derived.HandedShaped
import Derived.LaidOnce
namespace Go.Proofs.Ytabmdijfholakaa.AM
open Go
end Go.Proofs.Ytabmdijfholakaa.AM
