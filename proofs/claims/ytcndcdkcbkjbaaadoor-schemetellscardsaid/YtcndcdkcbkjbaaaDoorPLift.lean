/-
  From the rows' conditions to what the walks ask: a slice's length and capacity.
-/
import Derived.Test.YtcndcdkcbkjbaaaDoorLift
namespace Go.Proofs.YtcndcdkcbkjbaaaDoor
open Go.ChangeShapes Go.WideShapes Go.ChangeAt Go.RowKit

end Go.Proofs.YtcndcdkcbkjbaaaDoor
