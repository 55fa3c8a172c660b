/-
  The walks of the reference's There, Depth, Kids and Below. Condition: the places lie in memory.
-/
import Derived.Test.YthooeahpfegjbaaOd
namespace Go.Proofs.Ythooeahpfegjbaa
open Go.RowKit

def RDepRel (W : World) (l : List Int) (d : Nat) (k : Nat) (p q : Value) (wr : World) : Prop :=
  ∃ (c : Nat) (z : Int), k + c = d ∧ p = .int .i64 c ∧ q = .int .i64 z ∧ (ups l z).length = k ∧ z < l.length ∧ Below W.heap.size W wr
/-- those of the first i places that are picked -/
def pick (p : Nat → Bool) (i : Nat) : List Nat := (List.range i).filter p
theorem pick_zero (p : Nat → Bool) : pick p 0 = [] := rfl
theorem pick_yes {p : Nat → Bool} {i : Nat} (h : p i = true) : pick p (i + 1) = pick p i ++ [i] := by
  rw [pick, List.range_succ, List.filter_append, pick, List.filter_cons_of_pos h]
  rfl
theorem pick_no {p : Nat → Bool} {i : Nat} (h : p i = false) : pick p (i + 1) = pick p i := by
  rw [pick, List.range_succ, List.filter_append, pick, List.filter_cons_of_neg (by rw [h]; decide)]
  simp
theorem pick_len (p : Nat → Bool) (i : Nat) : (pick p i).length ≤ i := by
  have := List.length_filter_le p (List.range i)
  rwa [List.length_range] at this
theorem toInts_append (a b : List Nat) : toInts (a ++ b) = toInts a ++ toInts b := List.map_append
theorem toInts_length (a : List Nat) : (toInts a).length = a.length := List.length_map _

def RPickRel (W : World) (n : Nat) (p : Nat → Bool) (k : Nat) (v q : Value) (wr : World) : Prop :=
  ∃ i : Nat, k + i = n ∧ Bi W wr v (toInts (pick p i)) ∧ q = .int .i64 i

end Go.Proofs.Ythooeahpfegjbaa
