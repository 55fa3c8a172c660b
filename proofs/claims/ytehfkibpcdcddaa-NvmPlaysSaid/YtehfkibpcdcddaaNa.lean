/-
  A memory as plain data, how it lies in blocks, and what stays outside of it. No condition.
-/
import Derived.Test.YtehfkibpcdcddaaRd
import Derived.Deep.CutBlock
import Derived.Deep.LoopGhost
import Derived.Deep.RegionHeld3
import Derived.Deep.DeepCutAuto
import Derived.Deep.CutRange
import Derived.Deep.QuietTactic
import Derived.BigQuiet
import Derived.StillTailTactics
namespace Go.Proofs.Ytehfkibpcdcddaa
open Go.RowKit

/-- outside two blocks all is as it was -/
structure Own (b rb : Nat) (w w' : World) : Prop where
  os : w'.os = w.os
  tape : w'.tape = w.tape
  output : w'.output = w.output
  size : w.heap.size ≤ w'.heap.size
  block : ∀ k, k < w.heap.size → k ≠ b → k ≠ rb → w'.heap[k]? = w.heap[k]?

section
variable {w w1 w2 : World} {b rb : Nat}
theorem Own.refl (b rb : Nat) (w : World) : Own b rb w w := ⟨rfl, rfl, rfl, Nat.le_refl _, fun _ _ _ _ => rfl⟩
theorem Own.trans (h : Own b rb w w1) (k : Own b rb w1 w2) : Own b rb w w2 :=
  ⟨k.os.trans h.os, k.tape.trans h.tape, k.output.trans h.output, Nat.le_trans h.size k.size,
    fun i hi h1 h2 => (k.block i (Nat.lt_of_lt_of_le hi h.size) h1 h2).trans (h.block i hi h1 h2)⟩
theorem Own.fr {o n : Nat} (h : Fr w w1 b o n) : Own b rb w w1 := ⟨h.os, h.tape, h.output, h.size, fun k hk h1 _ => h.block k hk h1⟩
theorem Own.fr2 {o n : Nat} (h : Fr w w1 rb o n) : Own b rb w w1 := ⟨h.os, h.tape, h.output, h.size, fun k hk _ h2 => h.block k hk h2⟩
theorem Own.of_below (h : Below w.heap.size w w1) : Own b rb w w1 := ⟨h.os, h.tape, h.output, h.size, fun k hk _ _ => h.block k hk⟩
theorem Own.drewN (w : World) (n : Nat) : Own b rb w (w.drewN n) := ⟨rfl, rfl, rfl, Nat.le_refl _, fun _ _ _ _ => rfl⟩
theorem Own.below (h : Own b rb w w1) {B : Nat} (h1 : B ≤ b) (h2 : B ≤ rb) (hB : B ≤ w.heap.size) : Below B w w1 :=
  ⟨h.os, h.tape, h.output, h.size, fun k hk => h.block k (by omega) (by omega) (by omega)⟩
theorem Own.alloc (h : Own b rb w w1) (ob : Obj) : Own b rb w (w1.alloc ob) :=
  h.trans ⟨rfl, rfl, rfl, by simp, fun k hk _ _ => Below.heap_alloc _ _ _ hk⟩
end

theorem At.drewN {w : World} {b o : Nat} {r : Ln} (h : At w b o r) (n : Nat) : At (w.drewN n) b o r := ⟨h.ok, h.range, h.free⟩
theorem below_draws {B : Nat} {a w : World} (h : Below B a w) (n : Nat) : Below B a (w.drewN n) := h.trans ⟨rfl, rfl, rfl, Nat.le_refl _, fun _ _ => rfl⟩
theorem At.beside {w w' : World} {b o o' : Nat} {r : Ln} (h : At w b o r) (hf : Fr w w' b o' 18) (hd : o + 18 ≤ o' ∨ o' + 18 ≤ o) : At w' b o r :=
  ⟨h.ok, fun j v hv => by
    have hj : j < 18 := by have := (List.getElem?_eq_some_iff.1 hv).1; rwa [Ln.cells_length h.ok] at this
    rw [hf.cell (o + j) (by omega)]; exact h.range j v hv,
   fun j hj => ⟨hf.some _ (h.free j hj).1, (hf.frozen _ h.lt).trans (h.free j hj).2⟩⟩

/-- lines one behind the other -/
def Rws (w : World) (rb : Nat) (l : List Ln) : Prop := ∀ i r, l[i]? = some r → At w rb (i * 18) r
section
variable {w w' : World} {rb : Nat} {l : List Ln}
theorem Rws.keep (h : Rws w rb l) (hb : w'.heap[rb]? = w.heap[rb]?) : Rws w' rb l := fun i r hr => (h i r hr).keep hb
theorem Rws.drewN (h : Rws w rb l) (n : Nat) : Rws (w.drewN n) rb l := fun i r hr => (h i r hr).drewN n
theorem Rws.at_ (h : Rws w rb l) {i : Nat} (hi : i < l.length) : At w rb (i * 18) l[i] := h i _ (List.getElem?_eq_getElem hi)
theorem Rws.lt (h : Rws w rb l) (hp : 0 < l.length) : rb < w.heap.size := (h.at_ hp).lt
theorem Rws.turn (h : Rws w rb l) {i : Nat} {r' : Ln} (ht : Turn w w' rb (i * 18) r') : Rws w' rb (l.set i r') := fun j r hr => by
  by_cases e : i = j
  · subst e
    have hlt : i < (l.set i r').length := (List.getElem?_eq_some_iff.1 hr).1
    rw [List.getElem?_set_self (by simpa using hlt)] at hr
    injection hr with hr; subst hr
    exact ht.here
  · rw [List.getElem?_set_ne e] at hr
    exact (h j r hr).beside ht.fr (by omega)
end

/-- a memory: its lines, whether the power is gone, how many counted, the fuse, which lines it keeps -/
structure Mm where
  rows : List Ln
  off : Bool
  n : Int
  calls : Int
  kept : Nat → Bool

def Marks (w : World) (kb len : Nat) (f : Nat → Bool) : Prop := ∀ i, i < len → w.cell? ⟨kb, i, none⟩ = some (.bool (f i))
theorem Marks.keep {w w' : World} {kb len : Nat} {f : Nat → Bool} (h : Marks w kb len f) (hb : w'.heap[kb]? = w.heap[kb]?) : Marks w' kb len f :=
  fun i hi => (World.cell?_of_block (w := w) hb).trans (h i hi)

/-- the fuse's marks -/
def Fuz (w : World) (F len : Nat) (calls : Int) (kept : Nat → Bool) (v : Value) : Prop :=
  0 < calls → ∃ kb, v = .slice (some ⟨kb, 0, none⟩) len len ∧ F ≤ kb ∧ kb < w.heap.size ∧ Marks w kb len kept

/-- the program's memory: its box b, its lines' block rb; marks lie from F on -/
structure MAt (w : World) (b rb F : Nat) (m : Mm) : Prop where
  rows : Rws w rb m.rows
  pos : 0 < m.rows.length
  few : m.rows.length ≤ 4096
  c0 : w.cell? ⟨b, 0, none⟩ = some (.slice (some ⟨rb, 0, none⟩) m.rows.length m.rows.length)
  c1 : w.cell? ⟨b, 1, none⟩ = some (.bool m.off)
  c2 : w.cell? ⟨b, 2, none⟩ = some (.int .i64 m.n)
  c3 : w.cell? ⟨b, 3, none⟩ = some (.int .i64 m.calls)
  c4 : ∃ v, w.cell? ⟨b, 4, none⟩ = some v ∧ Fuz w F m.rows.length m.calls m.kept v
  free : ∀ j, j < 5 → w.frozen? ⟨b, j, none⟩ = false
  ne : b ≠ rb
  bF : b < F
  rF : rb < F
  sz : F ≤ w.heap.size
  calls0 : 0 ≤ m.calls ∧ m.calls ≤ 9223372036854775807

section
variable {w w' : World} {b rb F : Nat} {m : Mm}
theorem MAt.lt (h : MAt w b rb F m) : b < w.heap.size := Nat.lt_of_lt_of_le h.bF h.sz
theorem MAt.rlt (h : MAt w b rb F m) : rb < w.heap.size := Nat.lt_of_lt_of_le h.rF h.sz
theorem Fuz.keep {len : Nat} {c : Int} {k : Nat → Bool} {v : Value} (h : Fuz w F len c k v) (hs : w.heap.size ≤ w'.heap.size) (hb : ∀ kb, F ≤ kb → kb < w.heap.size → w'.heap[kb]? = w.heap[kb]?) : Fuz w' F len c k v := fun h0 => by
  obtain ⟨kb, e, h1, h2, h3⟩ := h h0
  exact ⟨kb, e, h1, by omega, h3.keep (hb kb h1 h2)⟩
/-- nothing of it is touched -/
theorem MAt.keep (h : MAt w b rb F m) (hs : w.heap.size ≤ w'.heap.size) (hb : w'.heap[b]? = w.heap[b]?) (hr : w'.heap[rb]? = w.heap[rb]?) (hk : ∀ kb, F ≤ kb → kb < w.heap.size → w'.heap[kb]? = w.heap[kb]?) : MAt w' b rb F m := by
  obtain ⟨v, h4, hf⟩ := h.c4
  exact ⟨h.rows.keep hr, h.pos, h.few, (World.cell?_of_block (w := w) hb).trans h.c0, (World.cell?_of_block (w := w) hb).trans h.c1, (World.cell?_of_block (w := w) hb).trans h.c2, (World.cell?_of_block (w := w) hb).trans h.c3,
    ⟨v, (World.cell?_of_block (w := w) hb).trans h4, hf.keep hs hk⟩, fun j hj => (World.frozen?_of_block (w := w) (a := ⟨b, j, none⟩) hb).trans (h.free j hj), h.ne, h.bF, h.rF, Nat.le_trans h.sz hs, h.calls0⟩
theorem MAt.below (h : MAt w b rb F m) (hb : Below w.heap.size w w') : MAt w' b rb F m :=
  h.keep hb.size (hb.block b h.lt) (hb.block rb h.rlt) fun kb _ hk => hb.block kb hk
theorem MAt.drewN (h : MAt w b rb F m) (n : Nat) : MAt (w.drewN n) b rb F m := h.below ⟨rfl, rfl, rfl, Nat.le_refl _, fun _ _ => rfl⟩
/-- another memory's writes -/
theorem MAt.other {b' rb' : Nat} (h : MAt w b rb F m) (ho : Own b' rb' w w') (h1 : b' < F) (h2 : rb' < F) (n1 : b ≠ b') (n2 : b ≠ rb') (n3 : rb ≠ b') (n4 : rb ≠ rb') : MAt w' b rb F m :=
  h.keep ho.size (ho.block b h.lt n1 n2) (ho.block rb h.rlt n3 n4) fun kb hF hk => ho.block kb hk (by omega) (by omega)

/-- one line is written -/
theorem MAt.row (h : MAt w b rb F m) {i : Nat} {r' : Ln} (ht : Turn w w' rb (i * 18) r') : MAt w' b rb F { m with rows := m.rows.set i r' } := by
  have hb : w'.heap[b]? = w.heap[b]? := ht.fr.block b h.lt h.ne
  obtain ⟨v, h4, hf⟩ := h.c4
  have hl : (m.rows.set i r').length = m.rows.length := by simp
  refine ⟨h.rows.turn ht, by simpa using h.pos, by simpa using h.few, ?_, (World.cell?_of_block (w := w) hb).trans h.c1, (World.cell?_of_block (w := w) hb).trans h.c2, (World.cell?_of_block (w := w) hb).trans h.c3,
    ⟨v, (World.cell?_of_block (w := w) hb).trans h4, ?_⟩, fun j hj => (World.frozen?_of_block (w := w) (a := ⟨b, j, none⟩) hb).trans (h.free j hj), h.ne, h.bF, h.rF, Nat.le_trans h.sz ht.fr.size, h.calls0⟩
  · rw [(World.cell?_of_block (w := w) hb).trans h.c0]; simp
  · simp only [hl]
    exact hf.keep ht.fr.size fun kb hk hlt => ht.fr.block kb hlt (by have := h.rF; omega)
/-- cells of the box are written -/
theorem MAt.cells_ (h : MAt w b rb F m) {m' : Mm} {o n : Nat} (hf : Fr w w' b o n) (hr : m'.rows = m.rows) (h0 : 1 ≤ o) (hc : 0 ≤ m'.calls ∧ m'.calls ≤ 9223372036854775807)
    (c1 : w'.cell? ⟨b, 1, none⟩ = some (.bool m'.off)) (c2 : w'.cell? ⟨b, 2, none⟩ = some (.int .i64 m'.n)) (c3 : w'.cell? ⟨b, 3, none⟩ = some (.int .i64 m'.calls))
    (c4 : ∃ v, w'.cell? ⟨b, 4, none⟩ = some v ∧ Fuz w F m.rows.length m'.calls m'.kept v) : MAt w' b rb F m' := by
  obtain ⟨v, h4, hz⟩ := c4
  refine ⟨by rw [hr]; exact h.rows.keep (hf.block rb h.rlt (Ne.symm h.ne)), by rw [hr]; exact h.pos, by rw [hr]; exact h.few, ?_, c1, c2, c3, ⟨v, h4, ?_⟩, fun j hj => (hf.frozen j h.lt).trans (h.free j hj), h.ne, h.bF, h.rF, Nat.le_trans h.sz hf.size, hc⟩
  · rw [hr, hf.cell 0 (by omega)]; exact h.c0
  · rw [hr]
    exact hz.keep hf.size fun kb hk hlt => hf.block kb hlt (by have := h.bF; omega)
end
end Go.Proofs.Ytehfkibpcdcddaa
