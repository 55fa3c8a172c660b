/-
  The walk of the reference's GoodThing. No condition.
-/
import Derived.Test.YtloemadjiombhaaIc
import Derived.BigRegion
namespace Go.Proofs.Ytloemadjiombhaa
open Go.RowKit

end Go.Proofs.Ytloemadjiombhaa
