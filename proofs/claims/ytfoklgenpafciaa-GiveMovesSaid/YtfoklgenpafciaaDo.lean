/-
  How an argument []int reads. No condition.
-/
import Derived.Test.YtfoklgenpafciaaBy
namespace Go.Proofs.Ytfoklgenpafciaa
open Go.ChangeShapes Go.WideShapes Go.ChangeAt Go.RowKit Go.Deep

set_option maxRecDepth 100000 in

end Go.Proofs.Ytfoklgenpafciaa
