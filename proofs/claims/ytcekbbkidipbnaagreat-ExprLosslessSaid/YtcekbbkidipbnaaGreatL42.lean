/-
  Texts put together: RefName.
-/
import Derived.Test.YtcekbbkidipbnaaGreatL31
set_option maxRecDepth 100000
set_option maxHeartbeats 8000000
namespace Go.Proofs.YtcekbbkidipbnaaGreat.tok
open Go.RowKit
end Go.Proofs.YtcekbbkidipbnaaGreat.tok
