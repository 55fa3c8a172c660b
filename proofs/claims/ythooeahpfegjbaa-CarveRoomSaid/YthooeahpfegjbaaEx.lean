/-
  What the program's calls answer, gathered: the laws are walked over it. Condition: the forest lies in memory, at most a million places.
-/
import Derived.Test.YthooeahpfegjbaaEf
namespace Go.Proofs.Ythooeahpfegjbaa
open Go.RowKit

/-- a call that hands back a list -/
def ListF (w w' : World) (e : Ending) (L : List Int) : Prop := ∃ B cb, e = .returned (.slice B L.length cb) ∧ L.length ≤ cb ∧ IntsAt w' w'.heap.size B L ∧ Below w.heap.size w w'
/-- a call that hands back a forest, and whether it is one -/
def GivesF (w w' : World) (e : Ending) (r : Option (List Int)) : Prop := ∃ B cb, e = .returned (.tuple #[.agg #[.slice B (r.getD []).length cb], .bool r.isSome]) ∧ (r.getD []).length ≤ cb ∧ IntsAt w' w'.heap.size B (r.getD []) ∧ Below w.heap.size w w'
end Go.Proofs.Ythooeahpfegjbaa
