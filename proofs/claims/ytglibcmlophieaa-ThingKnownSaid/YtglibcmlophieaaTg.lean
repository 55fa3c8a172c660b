/-
  The walk of the law's awake: it answers true. No condition.
-/
import Derived.Test.YtglibcmlophieaaTf
namespace Go.Proofs.Ytglibcmlophieaa
open Go.RowKit

/-- fields written out -/
theorem lit_fds (w : World) (l : List Fd) (t : TypeId) (cs : Array Value) (hcs : cs = (fcells l).toArray) : FdsAt (w.alloc (.cells cs t)) (w.heap.size + 1) (some ⟨w.heap.size, 0, none⟩) l := fun _ => by
  subst hcs
  have hg := heap_alloc_new w (.cells (fcells l).toArray t)
  refine ⟨w.heap.size, 0, rfl, by omega, fun j x hx => ?_⟩
  obtain ⟨e1, e2⟩ := fcells_get hx
  rw [Nat.zero_add]
  exact ⟨by rw [cell_of_row _ _ (j * 2) _ _ _ hg]; simpa using e1, by rw [cell_of_row _ _ (j * 2 + 1) _ _ _ hg]; simpa using e2⟩
def ucells (l : List Nat) : List Value := l.map fun z : Nat => .int .u64 (z : Int)
theorem lit_words (w : World) (l : List Nat) (t : TypeId) (cs : Array Value) (hcs : cs = (ucells l).toArray) : WordsAt (w.alloc (.cells cs t)) (w.heap.size + 1) (some ⟨w.heap.size, 0, none⟩) l := fun _ => by
  subst hcs
  have hg := heap_alloc_new w (.cells (ucells l).toArray t)
  refine ⟨w.heap.size, 0, rfl, by omega, fun j z hz => ?_⟩
  rw [Nat.zero_add, cell_of_row _ _ j _ _ _ hg]
  unfold ucells
  simp [hz]

def two4 : List Fd := [⟨0, 4⟩, ⟨4, 4⟩]
theorem put_two4 : put two4 [1, 2] = some 33 := by kernel_rfl
theorem get_two4 : gotten 33 two4 = [1, 2] := by kernel_rfl
theorem good_two4 : good two4 = true := by kernel_rfl

theorem put_at {r n m cap cap' : Nat} {A A' : Option Addr} {l : List Fd} {v : List Nat} {w : World} (hn : n = l.length) (hm : m = v.length) (hl : n ≤ 1000000) (hv : m ≤ 1000000)
    (hL : FdsAt w w.heap.size A l) (hV : WordsAt w w.heap.size A' v) (hw : ∀ z ∈ v, z ≤ top) (hr : put l v = some r) :
    Calls Try.prog 23 #[.slice A n cap, .slice A' m cap'] w fun e w' => e = .returned (.tuple #[.int .u64 (r : Int), .bool true]) ∧ Below w.heap.size w w' := by
  subst hn hm
  have := put_any A cap l A' cap' v w hl hL hv hV hw
  rw [hr] at this
  exact this
theorem put_off {n m cap cap' : Nat} {A A' : Option Addr} {l : List Fd} {v : List Nat} {w : World} (hn : n = l.length) (hm : m = v.length) (hl : n ≤ 1000000) (hv : m ≤ 1000000)
    (hL : FdsAt w w.heap.size A l) (hV : WordsAt w w.heap.size A' v) (hw : ∀ z ∈ v, z ≤ top) (hr : put l v = none) :
    Calls Try.prog 23 #[.slice A n cap, .slice A' m cap'] w fun e w' => e = .returned (.tuple #[.int .u64 0, .bool false]) ∧ Below w.heap.size w w' := by
  subst hn hm
  have := put_any A cap l A' cap' v w hl hL hv hV hw
  rw [hr] at this
  exact this
theorem get_at {z n cap : Nat} {A : Option Addr} {l : List Fd} {g : List Nat} {w : World} (hz : z ≤ top) (hn : n = l.length) (hl : n ≤ 1000000) (hL : FdsAt w w.heap.size A l) (hg : gotten z l = g) :
    Calls Try.prog 31 #[.int .u64 (z : Int), .slice A n cap] w fun e w' => ∃ v, e = .returned v ∧ Words w' v g ∧ Below w.heap.size w w' := by
  subst hn hg
  exact get_any z A cap l w hz hl hL
theorem rest_at {z r n cap : Nat} {A : Option Addr} {l : List Fd} {w : World} (hz : z ≤ top) (hn : n = l.length) (hl : n ≤ 1000000) (hL : FdsAt w w.heap.size A l) (hr : rest z l = r) :
    Calls Try.prog 30 #[.int .u64 (z : Int), .slice A n cap] w fun e w' => e = .returned (.int .u64 (r : Int)) ∧ Below w.heap.size w w' := by
  subst hn hr
  exact rest_any z A cap l w hz hl hL
theorem FdsAt.grow {w w' : World} {A : Option Addr} {l : List Fd} (h : FdsAt w w.heap.size A l) (hb : Below w.heap.size w w') : FdsAt w' w'.heap.size A l := (h.below hb).mono hb.size
theorem WordsAt.grow {w w' : World} {A : Option Addr} {l : List Nat} (h : WordsAt w w.heap.size A l) (hb : Below w.heap.size w w') : WordsAt w' w'.heap.size A l := (h.below hb).mono hb.size
theorem below_alloc (w : World) (ob : Obj) : Below w.heap.size w (w.alloc ob) := (Below.refl _ _).alloc (Nat.le_refl _) _
theorem below_self (w : World) : Below w.heap.size w w := Below.refl _ _
theorem lit_fds' (w : World) (l : List Fd) (t : TypeId) (cs : Array Value) (hcs : cs = (fcells l).toArray) : FdsAt (w.alloc (.cells cs t)) (w.alloc (.cells cs t)).heap.size (some ⟨w.heap.size, 0, none⟩) l :=
  (lit_fds w l t cs hcs).mono (by simp)
theorem lit_words' (w : World) (l : List Nat) (t : TypeId) (cs : Array Value) (hcs : cs = (ucells l).toArray) : WordsAt (w.alloc (.cells cs t)) (w.alloc (.cells cs t)).heap.size (some ⟨w.heap.size, 0, none⟩) l :=
  (lit_words w l t cs hcs).mono (by simp)

end Go.Proofs.Ytglibcmlophieaa
