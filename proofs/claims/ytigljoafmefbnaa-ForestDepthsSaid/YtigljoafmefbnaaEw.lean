/-
  How long what is handed back may be (plain). Condition: none.
-/
import Derived.Test.YtigljoafmefbnaaEc
namespace Go.Proofs.Ytigljoafmefbnaa

theorem toInts_length (m : List Nat) : (toInts m).length = m.length := List.length_map _
theorem picked_few (n : Nat) (p : Nat → Bool) : ((List.range n).filter p).length ≤ n := by
  have := List.length_filter_le p (List.range n)
  rwa [List.length_range] at this
theorem fkids_few (l : List Int) (i : Int) : (fkids l i).length ≤ l.length := by
  rw [fkids]; split
  · rw [toInts_length]; exact picked_few _ _
  · exact Nat.zero_le _
theorem fbelow_few (l : List Int) (i : Int) : (fbelow l i).length ≤ l.length := by
  rw [fbelow]; split
  · rw [toInts_length]; exact picked_few _ _
  · exact Nat.zero_le _
theorem forder_few (l : List Int) : (forder l).length ≤ l.length := by
  rw [forder]; split
  · next h => rw [toInts_length]; exact orderN_few (fo_iff.1 h)
  · exact Nat.zero_le _
theorem fadd_few (l : List Int) (i k : Int) : ((fadd l i k).getD []).length ≤ l.length := by
  rw [fadd]; split
  · exact Nat.le_of_eq (List.length_set ..)
  · exact Nat.zero_le _
theorem fdrop_few (l : List Int) (i : Int) : ((fdrop l i).getD []).length ≤ l.length := by
  rw [fdrop]; split
  · exact Nat.le_of_eq drop_length
  · exact Nat.zero_le _
theorem fmove_few (l : List Int) (i k : Int) : ((fmove l i k).getD []).length ≤ l.length := by
  rw [fmove]; split
  · exact Nat.le_of_eq move_length
  · exact Nat.zero_le _
theorem fprune_few (l : List Int) (i : Int) : ((fprune l i).getD []).length ≤ l.length := by
  rw [fprune]; split
  · exact Nat.le_of_eq prune_length
  · exact Nat.zero_le _
end Go.Proofs.Ytigljoafmefbnaa
