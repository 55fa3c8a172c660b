/-
  The walk of the reference's GoodThing. No condition.
-/
import Derived.Test.YthooeahpfegjbaaIc
import Derived.BigRegion
namespace Go.Proofs.Ythooeahpfegjbaa
open Go.RowKit

end Go.Proofs.Ythooeahpfegjbaa
