/-
  The walk of the reference's GoodThing. No condition.
-/
import Derived.Test.YtggaadknaiogmaaIc
import Derived.BigRegion
namespace Go.Proofs.Ytggaadknaiogmaa
open Go.RowKit

end Go.Proofs.Ytggaadknaiogmaa
