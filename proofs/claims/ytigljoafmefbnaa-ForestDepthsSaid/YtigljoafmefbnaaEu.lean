/-
  Ninety-six bools of the law's own, in one block. Condition: none.
-/
import Derived.Test.YtigljoafmefbnaaEy
namespace Go.Proofs.Ytigljoafmefbnaa
open Go.RowKit

/-- bools u of the law's own lie in G; what was before stands -/
structure Sn (W w : World) (G : Nat) (u : Nat → Bool) : Prop where
  cell : ∀ j, j < 96 → w.cell? ⟨G, j, none⟩ = some (.bool (u j))
  free : ∀ j, w.frozen? ⟨G, j, none⟩ = false
  lt : G < w.heap.size
  base : W.heap.size ≤ G
  old : Below W.heap.size W w
section
variable {W w w' : World} {G : Nat} {u v : Nat → Bool}
theorem Sn.on (h : Sn W w G u) (hb : Below w.heap.size w w') : Sn W w' G u :=
  ⟨fun j hj => by rw [hb.cell (p := ⟨G, _, none⟩) h.lt]; exact h.cell j hj,
    fun j => by rw [World.frozen?_of_block (w := w) (a := ⟨G, j, none⟩) (hb.block G h.lt)]; exact h.free j, Nat.lt_of_lt_of_le h.lt hb.size, h.base, below_on h.old hb⟩
theorem Sn.same (h : Sn W w G u) (e : ∀ j, j < 96 → u j = v j) : Sn W w G v :=
  ⟨fun j hj => by rw [h.cell j hj, e j hj], h.free, h.lt, h.base, h.old⟩
theorem Sn.set (h : Sn W w G u) (i : Nat) : Sn W (w.setCell ⟨G, i, none⟩ (.bool true)) G (fun j => u j || decide (j = i)) := by
  have hB : Below W.heap.size W (w.setCell ⟨G, i, none⟩ (.bool true)) := h.old.setCell (p := ⟨G, i, none⟩) h.base _
  refine ⟨fun j hj => ?_, fun j => by rw [World.frozen?_setCell]; exact h.free j, by simpa [World.setCell] using h.lt, h.base, hB⟩
  by_cases e : j = i
  · subst e
    rw [World.cell?_setCell_same _ _ _ (h.cell j hj)]
    simp
  · rw [World.cell?_setCell_other _ _ _ _ (fun q => e (by injection q with _ q; exact q.symm)), h.cell j hj]
    simp [e]
theorem Sn.new (w : World) (cs : Array Value) (t : TypeId) (hcs : cs = (List.replicate 96 (Value.bool false)).toArray) : Sn w (w.alloc (.cells cs t)) w.heap.size (fun _ => false) := by
  have hg := heap_alloc_new w (.cells cs t)
  refine ⟨fun j hj => ?_, fun j => frozen_of_row _ _ j _ _ hg, by simp, Nat.le_refl _, below_alloc _ _⟩
  rw [cell_of_row _ _ j _ _ _ hg, hcs, List.getElem?_toArray, List.getElem?_replicate, if_pos hj]
end
/-- t of the list o have been marked -/
def RD (W : World) (ZP : Nat) (o : List Nat) (n : Nat) (k : Nat) (p : Value) (wr : World) : Prop :=
  ∃ t : Nat, k + t = n ∧ p = .int .i64 t ∧ Sn W wr ZP (fun x => decide (x ∈ o.take t))
theorem zero44 (w : World) : Sem.run Try.prog (zeroValue 44) w = .ok (.agg (List.replicate 96 (Value.bool false)).toArray) w := by kernel_rfl
/-- the ninety-six, by a letter -/
theorem zero44_is : ∃ zs : Array Value, zs = (List.replicate 96 (Value.bool false)).toArray ∧ (∀ w, Sem.run Try.prog (zeroValue 44) w = .ok (.agg zs) w) ∧ ¬ zs = #[] ∧ zs.size = 96 :=
  ⟨_, rfl, zero44, by decide, by decide⟩
/-- three boxes beside one another, over a call -/
theorem t3_use {W1 W2 W3 W w : World} {P Q R N : Nat} {u v x : Value} {F : Ending → Prop} {xs : Array Value} (HP : Fbx W1 W P u) (HQ : Fbx W2 W Q v) (HR : Fbx W3 W R x) (h : Below W.heap.size W w) (hc : Calls Try.prog N xs w fun e w' => F e ∧ Below w.heap.size w w') :
    Calls Try.prog N xs w fun e w' => F e ∧ w'.cell? ⟨P, 0, none⟩ = some u ∧ w'.cell? ⟨Q, 0, none⟩ = some v ∧ w'.cell? ⟨R, 0, none⟩ = some x ∧ Below W.heap.size W w' := by
  refine hc.mono ?_
  rintro e w' ⟨hf, hb⟩
  have k := below_on h hb
  exact ⟨hf, by rw [k.cell (p := ⟨P, 0, none⟩) HP.lt]; exact HP.c, by rw [k.cell (p := ⟨Q, 0, none⟩) HQ.lt]; exact HQ.c, by rw [k.cell (p := ⟨R, 0, none⟩) HR.lt]; exact HR.c, k⟩
theorem ListF.only {P : Program} {N : Nat} {xs : Array Value} {w : World} {L : List Int} {n : Nat} (hn : n = L.length) (hc : Calls P N xs w fun e w' => ListF w w' e L) : Calls P N xs w fun e w' => (∃ B cb, e = .returned (.slice B n cb)) ∧ Below w.heap.size w w' := by
  refine hc.mono ?_
  intro e w' h
  obtain ⟨B, cb, h1, _, _, h2⟩ := h.to hn
  exact ⟨⟨B, cb, h1⟩, h2⟩
end Go.Proofs.Ytigljoafmefbnaa
