/-
  The reference's under: what Nodes stand in a Node. Condition: the state lies in memory, its things may be, the capabilities of Nodes name things that are there.
-/
import Derived.Test.YthooeahpfegjbaaJe
namespace Go.Proofs.Ythooeahpfegjbaa
open Go.RowKit

/-! ### bools of a call's own -/
theorem madeb_cell (w : World) (z : Array Value) (n t k : Nat) (hk : k < n) : (w.alloc (.cells (madeCells z n) t)).cell? ⟨w.heap.size, k, none⟩ = some (z[k % z.size]!) := by
  have e := heap_alloc_new w (.cells (madeCells z n) t)
  rw [cell_of_row _ _ k _ _ _ e]
  unfold madeCells
  simp [hk]
theorem infob_all : (Try.prog.info? 4).map (fun i => (i.zero, i.size, i.bytes)) = some (some (.bool false), 1, 1) := by kernel_rfl
theorem infob_parts : ∃ i : TypeInfo, Try.prog.info? 4 = some i ∧ i.zero = some (.bool false) ∧ i.size = 1 ∧ i.bytes = 1 := by
  have h := infob_all
  cases hq : Try.prog.info? 4 with
  | none => simp [hq] at h
  | some i =>
    simp [hq] at h
    exact ⟨i, rfl, h.1, h.2.1, h.2.2⟩
/-- a state's box, and bools of the call's own -/
structure Ub (W w : World) (g : Nat) (a b c : Int) (A : Option Addr) (n ca : Nat) (C : Option Addr) (m cc : Nat) (G N : Nat) (u : Nat → Bool) : Prop where
  box : Sbx W w g a b c A n ca C m cc
  cell : ∀ j, j < N → w.cell? ⟨G, j, none⟩ = some (.bool (u j))
  free : ∀ j, w.frozen? ⟨G, j, none⟩ = false
  ne : g < G
  lt : G < w.heap.size
section
variable {W w w' : World} {g : Nat} {a b c : Int} {A : Option Addr} {n ca : Nat} {C : Option Addr} {m cc G N : Nat} {u v : Nat → Bool}
theorem Ub.on (h : Ub W w g a b c A n ca C m cc G N u) (hb : Below w.heap.size w w') : Ub W w' g a b c A n ca C m cc G N u :=
  ⟨h.box.on hb, fun j hj => by rw [hb.cell (p := ⟨G, _, none⟩) h.lt]; exact h.cell j hj,
    fun j => by rw [World.frozen?_of_block (w := w) (a := ⟨G, j, none⟩) (hb.block G h.lt)]; exact h.free j, h.ne, Nat.lt_of_lt_of_le h.lt hb.size⟩
theorem Ub.same (h : Ub W w g a b c A n ca C m cc G N u) (e : ∀ j, j < N → u j = v j) : Ub W w g a b c A n ca C m cc G N v :=
  ⟨h.box, fun j hj => by rw [h.cell j hj, e j hj], h.free, h.ne, h.lt⟩
theorem Ub.set (h : Ub W w g a b c A n ca C m cc G N u) (i : Nat) : Ub W (w.setCell ⟨G, i, none⟩ (.bool true)) g a b c A n ca C m cc G N (fun j => j == i || u j) := by
  have hB : Below W.heap.size W (w.setCell ⟨G, i, none⟩ (.bool true)) := h.box.old.setCell (p := ⟨G, i, none⟩) (by have := h.box.base; have := h.ne; show W.heap.size ≤ G; omega) _
  have hn : ∀ j, (w.setCell ⟨G, i, none⟩ (.bool true)).cell? ⟨g, j, none⟩ = w.cell? ⟨g, j, none⟩ := fun j => World.cell?_setCell_other _ _ _ _ (fun q => by injection q with q; have := h.ne; omega)
  refine ⟨⟨(hn _).trans h.box.c0, (hn _).trans h.box.c1, (hn _).trans h.box.c2, (hn _).trans h.box.c3, (hn _).trans h.box.c4, hB, h.box.base, by simpa [World.setCell] using h.box.lt⟩, fun j hj => ?_, fun j => by rw [World.frozen?_setCell]; exact h.free j, h.ne, by simpa [World.setCell] using h.lt⟩
  by_cases e : j = i
  · subst e
    rw [World.cell?_setCell_same _ _ _ (h.cell j hj)]
    simp
  · rw [World.cell?_setCell_other _ _ _ _ (fun q => e (by injection q with _ q; exact q.symm)), h.cell j hj]
    simp [e]
theorem Ub.new (h : Sbx W w g a b c A n ca C m cc) (N : Nat) (t : TypeId) : Ub W (w.alloc (.cells (madeCells #[.bool false] N) t)) g a b c A n ca C m cc w.heap.size N (fun _ => false) :=
  ⟨h.on (below_alloc _ _), fun j hj => by rw [madeb_cell _ _ _ _ _ hj]; simp [Nat.mod_one], fun j => frozen_of_row _ _ j _ _ (heap_alloc_new w _), h.lt, by simp⟩
end

theorem Ub.newx {W w : World} {g : Nat} {a b c : Int} {A : Option Addr} {n ca : Nat} {C : Option Addr} {m cc : Nat} (h : Sbx W w g a b c A n ca C m cc) (N x : Nat) (t : TypeId) :
    Ub W (w.alloc (.cells ((madeCells #[.bool false] N).setIfInBounds x (.bool true)) t)) g a b c A n ca C m cc w.heap.size N (kstart x) := by
  refine ⟨h.on (below_alloc _ _), fun j hj => ?_, fun j => frozen_of_row _ _ j _ _ (heap_alloc_new w _), h.lt, by simp⟩
  have h1 := madeb_cell w #[.bool false] N t j hj
  rw [cell_of_row _ _ j _ _ _ (heap_alloc_new w _)] at h1 ⊢
  have hz : j < (madeCells #[Value.bool false] N).size := (Array.getElem?_eq_some_iff.1 h1).1
  rw [Array.getElem?_setIfInBounds]
  by_cases e : x = j
  · subst e
    rw [if_pos rfl, if_pos hz]
    simp [kstart]
  · rw [if_neg e, h1]
    have e2 : ¬ j = x := fun q => e q.symm
    simp [Nat.mod_one, kstart, e2]

/-! ### slot by slot -/
def edgesTo (th : List Tng) (sl : List Sl) (i : Nat) : List (Nat × Nat) := (List.range i).filterMap (edgeOf th sl)
theorem edgesTo_all (th : List Tng) (sl : List Sl) : edgesTo th sl sl.length = edgesN th sl := rfl
theorem kround_zero (th : List Tng) (sl : List Sl) (u : Nat → Bool) : kround (edgesTo th sl 0) u = u := rfl
theorem kround_none {th : List Tng} {sl : List Sl} {i : Nat} (h : edgeOf th sl i = none) (u : Nat → Bool) : kround (edgesTo th sl (i + 1)) u = kround (edgesTo th sl i) u := by
  rw [kround, edgesTo, List.range_succ, List.filterMap_append, List.foldl_append]
  simp [h]
  rfl
theorem kround_some {th : List Tng} {sl : List Sl} {i : Nat} {e : Nat × Nat} (h : edgeOf th sl i = some e) (u : Nat → Bool) : kround (edgesTo th sl (i + 1)) u = kcome (kround (edgesTo th sl i) u) e := by
  rw [kround, edgesTo, List.range_succ, List.filterMap_append, List.foldl_append]
  simp [h]
  rfl
/-- the capabilities of Nodes name things that are there -/
def NdIn (s : St) : Prop := ∀ i, i < s.sl.length → (slAt s.sl i).c.ty = 2 → 0 ≤ (slAt s.sl i).c.th ∧ (slAt s.sl i).c.th < s.th.length
/-- the bools that are handed back -/
def UnderF (w w' : World) (e : Ending) (m : Nat) (u : Nat → Bool) : Prop := ∃ G, e = .returned (.slice (some ⟨G, 0, none⟩) m m) ∧ (∀ j, j < m → w'.cell? ⟨G, j, none⟩ = some (.bool (u j))) ∧ G < w'.heap.size ∧ Below w.heap.size w w'
def UnRel (W : World) (g : Nat) (a b c : Int) (A : Option Addr) (n ca : Nat) (C : Option Addr) (m cc G : Nat) (E : List (Nat × Nat)) (x : Nat) (f : Nat) (p : Value) (wr : World) : Prop :=
  ∃ i : Nat, f + i = m ∧ p = .int .i64 i ∧ Ub W wr g a b c A n ca C m cc G m (krounds E i (kstart x))
def UnRel2 (W : World) (g : Nat) (a b c : Int) (A : Option Addr) (n ca : Nat) (C : Option Addr) (m cc G : Nat) (th : List Tng) (sl : List Sl) (u : Nat → Bool) (f : Nat) (p : Value) (wr : World) : Prop :=
  ∃ i : Nat, f + i = n ∧ p = .int .i64 i ∧ Ub W wr g a b c A n ca C m cc G m (kround (edgesTo th sl i) u)
end Go.Proofs.Ythooeahpfegjbaa
