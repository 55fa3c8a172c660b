/-
  The walk of the reference's GoodThing. No condition.
-/
import Derived.Test.YtmcgnjhjidfkdaaGreatIc
import Derived.BigRegion
namespace Go.Proofs.YtmcgnjhjidfkdaaGreat
open Go.RowKit

end Go.Proofs.YtmcgnjhjidfkdaaGreat
