/-
  How a list of the law's acts lies in memory; eight words of the law's own. No condition.
-/
import Derived.Test.YtigdhgikdknlmaaRf
import Derived.Deep.LoopGhost
import Derived.Deep.RegionHeld3
import Derived.Deep.DeepCutAuto
import Derived.Deep.CutRange
import Derived.Deep.QuietTactic
import Derived.BigQuiet
import Derived.StillTailTactics
namespace Go.Proofs.Ytigdhgikdknlmaa
open Go.RowKit

/-- an act of the laws: its kind, its place, its word -/
structure Ac where
  op : Int
  at_ : Int
  v : Int

/-- acts lie in a block below B -/
def ActsAt (w : World) (B : Nat) (A : Option Addr) (l : List Ac) : Prop :=
  0 < l.length → ∃ b o, A = some ⟨b, o, none⟩ ∧ b < B ∧ ∀ j a, l[j]? = some a →
    w.cell? ⟨b, o + j * 3, none⟩ = some (.int .i64 a.op) ∧ w.cell? ⟨b, o + j * 3 + 1, none⟩ = some (.int .i64 a.at_) ∧ w.cell? ⟨b, o + j * 3 + 2, none⟩ = some (.int .u64 a.v)
theorem ActsAt.below {w w' : World} {B : Nat} {A : Option Addr} {l : List Ac} (h : ActsAt w B A l) (hb : Below B w w') : ActsAt w' B A l := fun h0 => by
  obtain ⟨b, o, e, hlt, hc⟩ := h h0
  exact ⟨b, o, e, hlt, fun j a ha => by
    rw [hb.cell (p := ⟨b, _, none⟩) hlt, hb.cell (p := ⟨b, _, none⟩) hlt, hb.cell (p := ⟨b, _, none⟩) hlt]
    exact hc j a ha⟩

/-- eight words of the law's own -/
structure Eight (w : World) (b : Nat) (zs : List Int) : Prop where
  len : zs.length = 8
  range : w.rangeAt b 0 (wcells zs)
  free : w.there b 0 8

section
variable {w w' : World} {b : Nat} {zs : List Int}
theorem Eight.cell (h : Eight w b zs) {j : Nat} (hj : j < 8) : w.cell? ⟨b, j, none⟩ = some (.int .u64 (zs.getD j 0)) := by
  have := h.range j _ (wcells_get (by rw [h.len]; exact hj))
  rwa [Nat.zero_add] at this
theorem Eight.open_ (h : Eight w b zs) {j : Nat} (hj : j < 8) : w.frozen? ⟨b, j, none⟩ = false := by
  have := (h.free j hj).2
  rwa [Nat.zero_add] at this
theorem Eight.lt (h : Eight w b zs) : b < w.heap.size := World.block_lt_of_cell? w _ (h.cell (j := 0) (by omega))
theorem Eight.keep (h : Eight w b zs) (hb : w'.heap[b]? = w.heap[b]?) : Eight w' b zs :=
  ⟨h.len, fun j v hv => (World.cell?_of_block (w := w) hb).trans (h.range j v hv), fun j hj => ⟨by rw [World.cell?_of_block (w := w) (a := ⟨b, 0 + j, none⟩) hb]; exact (h.free j hj).1, by rw [World.frozen?_of_block (w := w) (a := ⟨b, 0 + j, none⟩) hb]; exact (h.free j hj).2⟩⟩
theorem Eight.turn {b' o : Nat} {r : Ln} (h : Eight w b zs) (ht : Turn w w' b' o r) (hne : b ≠ b') : Eight w' b zs := h.keep (ht.fr.block b h.lt hne)
theorem Eight.drewN (h : Eight w b zs) (n : Nat) : Eight (w.drewN n) b zs := ⟨h.len, h.range, h.free⟩
theorem Eight.new (w : World) (t : TypeId) (zs : List Int) (h : zs.length = 8) : Eight (w.alloc (.cells (wcells zs).toArray t)) w.heap.size zs := by
  have hg := heap_alloc_new w (.cells (wcells zs).toArray t)
  refine ⟨h, fun j v hv => ?_, fun j hj => ⟨?_, ?_⟩⟩
  · rw [Nat.zero_add, cell_of_row _ _ j _ _ _ hg]; simpa using hv
  · rw [Nat.zero_add, cell_of_row _ _ j _ _ _ hg]
    have : j < (wcells zs).length := by rw [wcells_length, h]; exact hj
    simp [this]
  · rw [Nat.zero_add]; exact frozen_of_row _ _ j _ _ hg
/-- one of the eight is written -/
theorem Eight.set_ (h : Eight w b zs) (i : Nat) (v : Int) (hi : i < 8) : Eight (w.setCell ⟨b, i, none⟩ (.int .u64 v)) b (zs.set i v) ∧ Fr w (w.setCell ⟨b, i, none⟩ (.int .u64 v)) b 0 8 := by
  have hf : Fr w (w.setCell ⟨b, i, none⟩ (.int .u64 v)) b 0 8 := Fr.set_ w _ (by omega) (by omega)
  refine ⟨⟨by rw [List.length_set]; exact h.len, fun j x hx => ?_, fun j hj => ⟨hf.some _ (h.free j hj).1, (hf.frozen _ h.lt).trans (h.free j hj).2⟩⟩, hf⟩
  rw [Nat.zero_add]
  rw [← wcells_set] at hx
  by_cases e : i = j
  · subst e
    rw [List.getElem?_set_self (by rw [wcells_length, h.len]; exact hi)] at hx
    rw [World.cell?_setCell_same _ _ _ (h.cell hi)]; exact hx
  · rw [List.getElem?_set_ne e] at hx
    rw [World.cell?_setCell_other _ _ _ _ (fun h => e (by injection h))]
    have := h.range j x hx
    rwa [Nat.zero_add] at this
end
theorem At.fr {w w' : World} {b o : Nat} {r : Ln} {b' o' n : Nat} (h : At w b o r) (hf : Fr w w' b' o' n) (hne : b ≠ b') : At w' b o r := h.keep (hf.block b h.lt hne)
theorem At.drewN {w : World} {b o : Nat} {r : Ln} (h : At w b o r) (n : Nat) : At (w.drewN n) b o r := ⟨h.ok, h.range, h.free⟩
theorem below_draws {B : Nat} {a w : World} (h : Below B a w) (n : Nat) : Below B a (w.drewN n) := h.trans ⟨rfl, rfl, rfl, Nat.le_refl _, fun _ _ => rfl⟩
theorem At.cell0 {w : World} {b : Nat} {r : Ln} (h : At w b 0 r) (j : Nat) {v : Value} (hv : r.cells[j]? = some v) : w.cell? ⟨b, j, none⟩ = some v := by
  have := h.range j v hv
  rwa [Nat.zero_add] at this
end Go.Proofs.Ytigdhgikdknlmaa
