/-
  The walks of the law's words and pairs. Condition: the lists lie in memory, at most a million.
-/
import Derived.Test.YtglibcmlophieaaTe
import Derived.Laws.AppendOwn
import Derived.Laws.OwnMore
import Derived.Laws.MakeOwn
import Derived.Laws.AppendOwnNone
import Derived.Deep.AppendLies
import Derived.Deep.RegionLaw
namespace Go.Proofs.Ytglibcmlophieaa
open Go.RowKit

def WordsRel (W : World) (n : Nat) (k : Nat) (p : Value) (wr : World) : Prop := ∃ i : Nat, k + i = n ∧ p = .int .i64 i ∧ Below W.heap.size W wr

/-- a list of the call's own grows; all that was there is as it was -/
structure Bld (W w : World) (e : TypeId) (s : Nat) (v : Value) (n : Nat) (xs : List Value) : Prop where
  own : w.ownsRow W.heap.size e s v n xs
  old : Below W.heap.size W w
section
variable {W w w' : World} {e : TypeId} {s : Nat} {v v' : Value} {n : Nat} {xs ys : List Value}
theorem Bld.alloc (h : Bld W w e s v n xs) (ob : Obj) : Bld W (w.alloc ob) e s v n xs := ⟨h.own.alloc ob, h.old.alloc h.old.size _⟩
theorem Bld.drewN (h : Bld W w e s v n xs) (k : Nat) : Bld W (w.drewN k) e s v n xs := ⟨h.own, below_draws h.old k⟩
theorem Bld.more {m : Nat} (h : Bld W w e s v n xs) (hg : w.grownBy w' v.ownBlock) (ho : w'.ownsRow W.heap.size e s v' m ys) : Bld W w' e s v' m ys :=
  ⟨ho, h.old.grown hg h.old.size fun k hk => (h.own.lt k hk).1⟩
end

def fcells (l : List Fd) : List Value := l.flatMap fun x => [.int .i64 x.f, .int .i64 x.n]
theorem fcells_length (l : List Fd) : (fcells l).length = l.length * 2 := by
  unfold fcells
  induction l with
  | nil => rfl
  | cons x xs ih => rw [List.flatMap_cons, List.length_append, ih]; simp; omega
theorem fcells_get {l : List Fd} {j : Nat} {x : Fd} (h : l[j]? = some x) : (fcells l)[j * 2]? = some (.int .i64 x.f) ∧ (fcells l)[j * 2 + 1]? = some (.int .i64 x.n) := by
  induction l generalizing j with
  | nil => simp at h
  | cons y ys ih =>
    have e : fcells (y :: ys) = .int .i64 y.f :: .int .i64 y.n :: fcells ys := rfl
    rw [e]
    cases j with
    | zero => simp at h; subst h; exact ⟨rfl, rfl⟩
    | succ j =>
      have := ih (j := j) (by simpa using h)
      rw [show (j + 1) * 2 = j * 2 + 1 + 1 by omega]
      simpa using this
theorem fcells_succ {l : List Fd} {i : Nat} {x : Fd} (h : l[i]? = some x) : fcells (l.take (i + 1)) = fcells (l.take i) ++ [.int .i64 x.f, .int .i64 x.n] := by
  unfold fcells
  rw [List.take_add_one, h, List.flatMap_append]
  simp

/-- a list of fields, or of pairs -/
def Fds (w : World) (v : Value) (l : List Fd) : Prop := ∃ A cap, v = .slice A l.length cap ∧ FdsAt w w.heap.size A l
theorem fds_of_owns {w : World} {B : Nat} {e : TypeId} {v : Value} {l : List Fd} (h : w.ownsRow B e 2 v l.length (fcells l)) : Fds w v l := by
  rcases h.2 with ⟨rfl, h0⟩ | ⟨g, cap, cur, rfl, hb, hg, h1, h2, h3, h4⟩
  · exact ⟨none, 0, by rw [h0], fun hp => absurd hp (by omega)⟩
  · refine ⟨some ⟨g, 0, none⟩, cap, rfl, fun _ => ⟨g, 0, rfl, (Array.getElem?_eq_some_iff.1 hg).1, fun j x hx => ?_⟩⟩
    have hj : j < l.length := (List.getElem?_eq_some_iff.1 hx).1
    obtain ⟨e1, e2⟩ := fcells_get hx
    have := h.cellAt (j * 2) (by omega)
    have h2 := h.cellAt (j * 2 + 1) (by omega)
    rw [Nat.zero_add]
    exact ⟨this.trans e1, h2.trans e2⟩

end Go.Proofs.Ytglibcmlophieaa
