/-
  A line of memory as plain data, how it lies in a block, and what turns when one line is written. No condition.
-/
import Derived.Test.YtehfkibpcdcddaaRows
import Derived.WalkKit
import Derived.WalkSpells
import Derived.WalkLawsBesides
import Derived.Lib.Hide
import Derived.Deep.MidRow
import Derived.Below
namespace Go.Proofs.Ytehfkibpcdcddaa
open Go.RowKit

/-- a line: what lasts, what is newest, whether it is out, whether it is sent -/
structure Ln where
  L : List Int
  N : List Int
  out : Bool
  sent : Bool

def Ln.ok (r : Ln) : Prop := r.L.length = 8 ∧ r.N.length = 8
/-- words as cells -/
def wcells (zs : List Int) : List Value := zs.map (Value.int .u64)
theorem wcells_length (zs : List Int) : (wcells zs).length = zs.length := by unfold wcells; simp
theorem wcells_get {zs : List Int} {j : Nat} (h : j < zs.length) : (wcells zs)[j]? = some (.int .u64 (zs.getD j 0)) := by
  unfold wcells
  rw [List.getElem?_map, List.getD, List.getElem?_eq_getElem h]; rfl
theorem wcells_one {zs : List Int} : ∀ u ∈ wcells zs, u.oneCell' = true := by
  intro u hu
  unfold wcells at hu
  obtain ⟨x, _, rfl⟩ := List.mem_map.1 hu
  rfl
theorem wcells_set (zs : List Int) (i : Nat) (v : Int) : (wcells zs).set i (.int .u64 v) = wcells (zs.set i v) := by
  unfold wcells; rw [List.map_set]

def Ln.cells (r : Ln) : List Value := wcells r.L ++ (wcells r.N ++ [.bool r.out, .bool r.sent])
theorem Ln.cells_length {r : Ln} (h : r.ok) : r.cells.length = 18 := by
  unfold Ln.cells; simp [wcells_length, h.1, h.2]
theorem Ln.cells_L {r : Ln} (h : r.ok) {j : Nat} (hj : j < 8) : r.cells[j]? = some (.int .u64 (r.L.getD j 0)) := by
  unfold Ln.cells
  rw [List.getElem?_append_left (by rw [wcells_length, h.1]; exact hj), wcells_get (by rw [h.1]; exact hj)]
theorem Ln.cells_N {r : Ln} (h : r.ok) {j : Nat} (hj : j < 8) : r.cells[8 + j]? = some (.int .u64 (r.N.getD j 0)) := by
  unfold Ln.cells
  rw [List.getElem?_append_right (by rw [wcells_length, h.1]; omega), wcells_length, h.1, List.getElem?_append_left (by rw [wcells_length, h.2]; omega), show 8 + j - 8 = j by omega, wcells_get (by rw [h.2]; exact hj)]
theorem Ln.cells_out {r : Ln} (h : r.ok) : r.cells[16]? = some (.bool r.out) := by
  unfold Ln.cells
  rw [List.getElem?_append_right (by rw [wcells_length, h.1]; omega), wcells_length, h.1, List.getElem?_append_right (by rw [wcells_length, h.2]; omega), wcells_length, h.2]
  rfl
theorem Ln.cells_sent {r : Ln} (h : r.ok) : r.cells[17]? = some (.bool r.sent) := by
  unfold Ln.cells
  rw [List.getElem?_append_right (by rw [wcells_length, h.1]; omega), wcells_length, h.1, List.getElem?_append_right (by rw [wcells_length, h.2]; omega), wcells_length, h.2]
  rfl
theorem Ln.one {r : Ln} : ∀ u ∈ r.cells, u.oneCell' = true := by
  intro u hu
  unfold Ln.cells at hu
  rw [List.mem_append, List.mem_append] at hu
  rcases hu with hu | hu | hu
  · exact wcells_one u hu
  · exact wcells_one u hu
  · simp at hu; rcases hu with rfl | rfl <;> rfl

/-- the line lies in block b from place o on, and may be written -/
structure At (w : World) (b o : Nat) (r : Ln) : Prop where
  ok : r.ok
  range : w.rangeAt b o r.cells
  free : w.there b o 18

theorem At.L {w : World} {b o : Nat} {r : Ln} (h : At w b o r) {j : Nat} (hj : j < 8) : w.cell? ⟨b, o + j, none⟩ = some (.int .u64 (r.L.getD j 0)) := h.range _ _ (Ln.cells_L h.ok hj)
theorem At.N {w : World} {b o : Nat} {r : Ln} (h : At w b o r) {j : Nat} (hj : j < 8) : w.cell? ⟨b, o + 8 + j, none⟩ = some (.int .u64 (r.N.getD j 0)) := by
  rw [Nat.add_assoc]; exact h.range _ _ (Ln.cells_N h.ok hj)
theorem At.freeN {w : World} {b o : Nat} {r : Ln} (h : At w b o r) {j : Nat} (hj : j < 8) : w.frozen? ⟨b, o + 8 + j, none⟩ = false := by
  rw [Nat.add_assoc]; exact (h.free _ (by omega)).2
theorem At.out {w : World} {b o : Nat} {r : Ln} (h : At w b o r) : w.cell? ⟨b, o + 16, none⟩ = some (.bool r.out) := h.range _ _ (Ln.cells_out h.ok)
theorem At.sent {w : World} {b o : Nat} {r : Ln} (h : At w b o r) : w.cell? ⟨b, o + 17, none⟩ = some (.bool r.sent) := h.range _ _ (Ln.cells_sent h.ok)
theorem At.lt {w : World} {b o : Nat} {r : Ln} (h : At w b o r) : b < w.heap.size := World.block_lt_of_cell? w _ h.out

/-- what lies outside n cells of one block is as it was -/
structure Fr (w w' : World) (b o n : Nat) : Prop where
  os : w'.os = w.os
  tape : w'.tape = w.tape
  output : w'.output = w.output
  size : w.heap.size ≤ w'.heap.size
  block : ∀ k, k < w.heap.size → k ≠ b → w'.heap[k]? = w.heap[k]?
  cell : ∀ j, j < o ∨ o + n ≤ j → w'.cell? ⟨b, j, none⟩ = w.cell? ⟨b, j, none⟩
  frozen : ∀ j, b < w.heap.size → w'.frozen? ⟨b, j, none⟩ = w.frozen? ⟨b, j, none⟩
  some : ∀ j, (w.cell? ⟨b, j, none⟩).isSome = true → (w'.cell? ⟨b, j, none⟩).isSome = true

section
variable {w w1 w2 : World} {b o n : Nat}
theorem Fr.refl (w : World) (b o n : Nat) : Fr w w b o n := ⟨rfl, rfl, rfl, Nat.le_refl _, fun _ _ _ => rfl, fun _ _ => rfl, fun _ _ => rfl, fun _ h => h⟩
theorem Fr.trans (h : Fr w w1 b o n) (k : Fr w1 w2 b o n) : Fr w w2 b o n :=
  ⟨k.os.trans h.os, k.tape.trans h.tape, k.output.trans h.output, Nat.le_trans h.size k.size,
    fun i hi hb => (k.block i (Nat.lt_of_lt_of_le hi h.size) hb).trans (h.block i hi hb),
    fun j hj => (k.cell j hj).trans (h.cell j hj), fun j hj => (k.frozen j (Nat.lt_of_lt_of_le hj h.size)).trans (h.frozen j hj), fun j hj => k.some j (h.some j hj)⟩
theorem Fr.set_ (w : World) {b o n i : Nat} (v : Value) (h1 : o ≤ i) (h2 : i < o + n) : Fr w (w.setCell ⟨b, i, none⟩ v) b o n :=
  ⟨rfl, rfl, rfl, by simp [World.setCell], fun k _ hne => Below.heap_setCell _ _ _ _ hne,
    fun j hj => World.cell?_setCell_other _ _ _ _ (fun e => by injection e with _ e; omega), fun j _ => World.frozen?_setCell _ _ _ _, fun j hj => World.isSome_setCells b [v] i w _ hj⟩
theorem Fr.sets {b o n : Nat} : ∀ (vs : List Value) (i : Nat) (w : World), o ≤ i → i + vs.length ≤ o + n → Fr w (w.setCells b i vs) b o n
  | [], _, w, _, _ => Fr.refl w _ _ _
  | v :: r, i, w, h1, h2 => by
    simp only [List.length_cons] at h2
    exact (Fr.set_ w v h1 (by omega)).trans (Fr.sets r (i + 1) _ (by omega) (by omega))
theorem Fr.alloc (h : Fr w w1 b o n) (ob : Obj) (hb : b < w1.heap.size) : Fr w (w1.alloc ob) b o n :=
  h.trans ⟨rfl, rfl, rfl, by simp, fun k hk _ => Below.heap_alloc _ _ _ hk,
    fun j _ => World.cell?_of_block (w := w1) (a := ⟨b, j, none⟩) (Below.heap_alloc _ _ _ hb), fun j _ => World.frozen?_of_block (w := w1) (a := ⟨b, j, none⟩) (Below.heap_alloc _ _ _ hb),
    fun j hj => by rw [World.cell?_of_block (w := w1) (a := ⟨b, j, none⟩) (Below.heap_alloc _ _ _ hb)]; exact hj⟩
theorem Fr.below (h : Fr w w1 b o n) {B : Nat} (hb : B ≤ b) (hB : B ≤ w.heap.size) : Below B w w1 :=
  ⟨h.os, h.tape, h.output, h.size, fun k hk => h.block k (by omega) (by omega)⟩
end

theorem At.keep {w w' : World} {b o : Nat} {r : Ln} (h : At w b o r) (hb : w'.heap[b]? = w.heap[b]?) : At w' b o r :=
  ⟨h.ok, fun j v hv => (World.cell?_of_block (w := w) hb).trans (h.range j v hv), fun j hj => ⟨by rw [World.cell?_of_block (w := w) (a := ⟨b, o + j, none⟩) hb]; exact (h.free j hj).1, by rw [World.frozen?_of_block (w := w) (a := ⟨b, o + j, none⟩) hb]; exact (h.free j hj).2⟩⟩

/-- behind a write to one line: the line is r; all else that was there is as it was -/
structure Turn (w w' : World) (b o : Nat) (r : Ln) : Prop where
  here : At w' b o r
  fr : Fr w w' b o 18

section
variable {w w1 w2 : World} {b o : Nat} {r r' : Ln}
theorem Turn.refl (h : At w b o r) : Turn w w b o r := ⟨h, Fr.refl _ _ _ _⟩
theorem Turn.trans (h : Turn w w1 b o r) (k : Turn w1 w2 b o r') : Turn w w2 b o r' := ⟨k.here, h.fr.trans k.fr⟩
theorem Turn.alloc (h : Turn w w1 b o r) (ob : Obj) : Turn w (w1.alloc ob) b o r := ⟨h.here.keep (Below.heap_alloc _ _ _ h.here.lt), h.fr.alloc ob h.here.lt⟩
theorem Turn.far {b' o' : Nat} (h : Turn w w1 b o r) (h' : At w b' o' r') (hne : b' ≠ b) : At w1 b' o' r' := h'.keep (h.fr.block b' h'.lt hne)
theorem At.free_of (h : At w b o r) (hf : Fr w w1 b o 18) : w1.there b o 18 := fun j hj => ⟨hf.some _ (h.free j hj).1, (hf.frozen _ h.lt).trans (h.free j hj).2⟩

/-- cells of the line are written -/
theorem At.sets_ (h : At w b o r) (i : Nat) (vs : List Value) (hi : i + vs.length ≤ 18) (hk : r'.ok) (hc : ∀ j, j < 18 → r'.cells[j]? = if i ≤ j ∧ j < i + vs.length then vs[j - i]? else r.cells[j]?) :
    Turn w (w.setCells b (o + i) vs) b o r' := by
  have hf : Fr w (w.setCells b (o + i) vs) b o 18 := Fr.sets vs (o + i) w (by omega) (by omega)
  refine ⟨⟨hk, fun j x hx => ?_, h.free_of hf⟩, hf⟩
  have hj : j < 18 := by
    have := (List.getElem?_eq_some_iff.1 hx).1
    rwa [Ln.cells_length hk] at this
  rw [hc j hj] at hx
  by_cases e : i ≤ j ∧ j < i + vs.length
  · rw [if_pos e] at hx
    have hq := World.cell?_setCells_in b vs (o + i) w (fun q hq => by rw [Nat.add_assoc]; exact (h.free (i + q) (by omega)).1) (j - i) (by omega)
    rw [show o + i + (j - i) = o + j by omega] at hq
    rw [hq, ← hx, List.getElem?_eq_getElem]
  · rw [if_neg e] at hx
    rw [World.cell?_setCells_out b vs (o + i) w ⟨b, o + j, none⟩ (fun _ _ => by show o + j < _ ∨ _ ≤ o + j; omega)]
    exact h.range j x hx
/-- one cell of the line is written -/
theorem At.set_ (h : At w b o r) (i : Nat) (v : Value) (hi : i < 18) (hk : r'.ok) (hc : r'.cells = r.cells.set i v) : Turn w (w.setCell ⟨b, o + i, none⟩ v) b o r' :=
  h.sets_ i [v] hi hk fun j hj => by
    rw [hc]
    by_cases e : i = j
    · subst e
      rw [if_pos ⟨Nat.le_refl _, by simp⟩, List.getElem?_set_self (by rw [Ln.cells_length h.ok]; exact hi)]
      simp
    · rw [if_neg (by simp; omega), List.getElem?_set_ne e]
end

section
variable {w w' : World} {b o : Nat} {r : Ln}
theorem At.setN (h : At w b o r) (i : Nat) (v : Int) (hi : i < 8) : Turn w (w.setCell ⟨b, o + 8 + i, none⟩ (.int .u64 v)) b o { r with N := r.N.set i v } := by
  rw [Nat.add_assoc]
  exact h.set_ (8 + i) _ (by omega) ⟨h.ok.1, by rw [List.length_set]; exact h.ok.2⟩ (by
    unfold Ln.cells
    simp only
    rw [List.set_append_right _ _ (by rw [wcells_length, h.ok.1]; omega), wcells_length, h.ok.1, show 8 + i - 8 = i by omega, List.set_append_left _ _ (by rw [wcells_length, h.ok.2]; omega), wcells_set])
theorem At.setOut (h : At w b o r) (v : Bool) : Turn w (w.setCell ⟨b, o + 16, none⟩ (.bool v)) b o { r with out := v } :=
  h.set_ 16 _ (by omega) h.ok (by
    unfold Ln.cells
    simp only
    rw [List.set_append_right _ _ (by rw [wcells_length, h.ok.1]; omega), wcells_length, h.ok.1, List.set_append_right _ _ (by rw [wcells_length, h.ok.2]; omega), wcells_length, h.ok.2]
    rfl)
theorem At.setSent (h : At w b o r) (v : Bool) : Turn w (w.setCell ⟨b, o + 17, none⟩ (.bool v)) b o { r with sent := v } :=
  h.set_ 17 _ (by omega) h.ok (by
    unfold Ln.cells
    simp only
    rw [List.set_append_right _ _ (by rw [wcells_length, h.ok.1]; omega), wcells_length, h.ok.1, List.set_append_right _ _ (by rw [wcells_length, h.ok.2]; omega), wcells_length, h.ok.2]
    rfl)
/-- what lasts is written whole -/
theorem At.setsL (h : At w b o r) (zs : List Int) (hz : zs.length = 8) : Turn w (w.setCells b o (wcells zs)) b o { r with L := zs } :=
  h.sets_ 0 (wcells zs) (by rw [wcells_length]; omega) ⟨hz, h.ok.2⟩ fun j hj => by
    unfold Ln.cells
    simp only
    rw [wcells_length, hz, Nat.zero_add, Nat.sub_zero]
    by_cases e : j < 8
    · rw [if_pos ⟨Nat.zero_le _, e⟩, List.getElem?_append_left (by rw [wcells_length]; omega)]
    · have a1 : (wcells zs).length = 8 := by rw [wcells_length, hz]
      have a2 : (wcells r.L).length = 8 := by rw [wcells_length, h.ok.1]
      rw [if_neg (by omega), List.getElem?_append_right (l₁ := wcells zs) (by omega), List.getElem?_append_right (l₁ := wcells r.L) (by omega), a1, a2]
/-- what is newest is written whole -/
theorem At.setsN (h : At w b o r) (zs : List Int) (hz : zs.length = 8) : Turn w (w.setCells b (o + 8) (wcells zs)) b o { r with N := zs } :=
  h.sets_ 8 (wcells zs) (by rw [wcells_length]; omega) ⟨h.ok.1, hz⟩ fun j hj => by
    unfold Ln.cells
    simp only
    rw [wcells_length, hz]
    by_cases e : j < 8
    · rw [if_neg (by omega), List.getElem?_append_left (by rw [wcells_length, h.ok.1]; omega), List.getElem?_append_left (by rw [wcells_length, h.ok.1]; omega)]
    · rw [List.getElem?_append_right (by rw [wcells_length, h.ok.1]; omega), wcells_length, h.ok.1]
      by_cases e2 : j < 16
      · rw [if_pos ⟨by omega, by omega⟩, List.getElem?_append_left (by rw [wcells_length]; omega)]
      · rw [if_neg (by omega), List.getElem?_append_right (by rw [wcells_length]; omega), List.getElem?_append_right (by rw [wcells_length, h.ok.1]; omega), List.getElem?_append_right (by rw [wcells_length, wcells_length, h.ok.1, h.ok.2]; omega), wcells_length, wcells_length, wcells_length, h.ok.1, h.ok.2, hz]
/-- the line is written whole -/
theorem At.setsAll (h : At w b o r) (r' : Ln) (hk : r'.ok) : Turn w (w.setCells b o r'.cells) b o r' :=
  h.sets_ 0 r'.cells (by rw [Ln.cells_length hk]; omega) hk fun j hj => by rw [if_pos (by rw [Ln.cells_length hk]; omega)]; rfl
/-- what lasts, what is newest, as ranges -/
theorem At.rangeL (h : At w b o r) : w.rangeAt b o (wcells r.L) := fun j v hv => by
  have hj := (List.getElem?_eq_some_iff.1 hv).1
  exact h.range j v (by unfold Ln.cells; rw [List.getElem?_append_left hj]; exact hv)
theorem At.rangeN (h : At w b o r) : w.rangeAt b (o + 8) (wcells r.N) := fun j v hv => by
  have hj := (List.getElem?_eq_some_iff.1 hv).1
  have := h.range (8 + j) v (by unfold Ln.cells; rw [List.getElem?_append_right (by rw [wcells_length, h.ok.1]; omega), wcells_length, h.ok.1, show 8 + j - 8 = j by omega, List.getElem?_append_left hj]; exact hv)
  rwa [show o + (8 + j) = o + 8 + j by omega] at this
end
end Go.Proofs.Ytehfkibpcdcddaa
