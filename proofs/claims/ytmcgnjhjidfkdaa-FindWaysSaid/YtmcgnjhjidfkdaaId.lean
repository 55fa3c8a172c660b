/-
  The walk of the reference's GoodThing. No condition.
-/
import Derived.Test.YtmcgnjhjidfkdaaIc
import Derived.BigRegion
namespace Go.Proofs.Ytmcgnjhjidfkdaa
open Go.RowKit

end Go.Proofs.Ytmcgnjhjidfkdaa
