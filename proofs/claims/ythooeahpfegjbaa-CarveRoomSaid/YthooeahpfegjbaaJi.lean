/-
  The reference's Ups: what each slot came of. Condition: the state lies in memory, at most a thousand slots.
-/
import Derived.Test.YthooeahpfegjbaaJg
namespace Go.Proofs.Ythooeahpfegjbaa
open Go.RowKit

def upsTo (l : List Sl) (i : Nat) : List Int := upsOf (l.take i)
theorem upsTo_all (l : List Sl) : upsTo l l.length = upsOf l := by rw [upsTo, List.take_length]
theorem upsTo_zero (l : List Sl) : upsTo l 0 = [] := rfl
theorem upsTo_succ {l : List Sl} {i : Nat} (h : i < l.length) : upsTo l (i + 1) = upsTo l i ++ [upOf (slAt l i)] := by
  rw [upsTo, List.take_add_one, slAt_get h, upsOf, List.map_append]
  rfl
theorem upsTo_len (l : List Sl) (i : Nat) : (upsTo l i).length ≤ i := by
  rw [upsTo, upsOf, List.length_map]
  exact List.length_take_le ..
def UpRel3 (W : World) (n : Nat) (l : List Sl) (f : Nat) (v q : Value) (wr : World) : Prop :=
  ∃ i : Nat, f + i = n ∧ q = .int .i64 i ∧ Bi W wr v (upsTo l i)
end Go.Proofs.Ythooeahpfegjbaa
