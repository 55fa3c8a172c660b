/-
  The law's own thingOf and ownOf: a state of the program's as the document's own. Condition: it lies in memory, at most a thousand slots and things.
-/
import Derived.Test.YthooeahpfegjbaaJl
import Derived.Deep.RegionLaw
import Derived.Deep.AppendLies
import Derived.Laws.AppendOwn
import Derived.Laws.OwnMore
namespace Go.Proofs.Ythooeahpfegjbaa
open Go.RowKit

/-! ### slots and things written out -/
def slist (x : Sl) : List Value := [.int .i64 x.c.ty, .int .i64 x.c.th, .int .i64 x.c.ri, .int .i64 x.c.ba, .int .i64 x.up]
def thist (t : Tng) : List Value := [.int .i64 t.ty, .int .i64 t.bits, .int .i64 t.base, .int .i64 t.size, .int .i64 t.used, .int .i64 t.frm, .int .i64 t.badge, .bool t.full, .int .u64 (t.word : Int), .int .u64 (t.d0 : Int), .int .u64 (t.d1 : Int), .int .u64 (t.d2 : Int), .int .u64 (t.d3 : Int)]
def sflat (l : List Sl) : List Value := l.flatMap slist
def tflat (l : List Tng) : List Value := l.flatMap thist
theorem flat_at {α : Type} {f : α → List Value} {k : Nat} (hf : ∀ x, (f x).length = k) : ∀ (l : List α) (j : Nat) (x : α), l[j]? = some x → ∀ c, c < k → (l.flatMap f)[j * k + c]? = (f x)[c]?
  | y :: l, 0, x, h, c, hc => by
    obtain rfl : y = x := by simpa using h
    rw [List.flatMap_cons, List.getElem?_append_left (by rw [hf]; omega), Nat.zero_mul, Nat.zero_add]
  | y :: l, j + 1, x, h, c, hc => by
    have := flat_at hf l j x (by simpa using h) c hc
    have e : (j + 1) * k + c = k + (j * k + c) := by rw [Nat.add_mul]; omega
    rw [List.flatMap_cons, e, List.getElem?_append_right (by rw [hf]; omega), hf, Nat.add_sub_cancel_left, this]
theorem flat_len {α : Type} {f : α → List Value} {k : Nat} (hf : ∀ x, (f x).length = k) : ∀ l : List α, (l.flatMap f).length = l.length * k
  | [] => by simp
  | y :: l => by rw [List.flatMap_cons, List.length_append, hf, flat_len hf l, List.length_cons, Nat.add_mul]; omega
theorem slist_len (x : Sl) : (slist x).length = 5 := rfl
theorem thist_len (t : Tng) : (thist t).length = 13 := rfl
theorem sflat_len (l : List Sl) : (sflat l).length = l.length * 5 := flat_len slist_len l
theorem tflat_len (l : List Tng) : (tflat l).length = l.length * 13 := flat_len thist_len l
theorem sflat_succ {l : List Sl} {i : Nat} (h : i < l.length) : sflat (l.take (i + 1)) = sflat (l.take i) ++ slist (slAt l i) := by
  rw [List.take_add_one, slAt_get h, sflat, List.flatMap_append]
  simp [sflat]
theorem tflat_succ {l : List Tng} {i : Nat} (h : i < l.length) : tflat (l.take (i + 1)) = tflat (l.take i) ++ thist (thAt l i) := by
  rw [List.take_add_one, thAt_get h, tflat, List.flatMap_append]
  simp [tflat]
theorem SlC.of_flat {w : World} {g : Nat} {l : List Sl} (h : ∀ k u, (sflat l)[k]? = some u → w.cell? ⟨g, k, none⟩ = some u) {j : Nat} (hj : j < l.length) : SlC w g (0 + j * 5) (slAt l j) := by
  have e : ∀ c u, c < 5 → (slist (slAt l j))[c]? = some u → w.cell? ⟨g, 0 + j * 5 + c, none⟩ = some u := fun c u hc hu => by
    rw [Nat.zero_add]
    exact h _ _ ((flat_at slist_len l j _ (slAt_get hj) c hc).trans hu)
  exact ⟨e 0 _ (by omega) rfl, e 1 _ (by omega) rfl, e 2 _ (by omega) rfl, e 3 _ (by omega) rfl, e 4 _ (by omega) rfl⟩
theorem ThC.of_flat {w : World} {g : Nat} {l : List Tng} (h : ∀ k u, (tflat l)[k]? = some u → w.cell? ⟨g, k, none⟩ = some u) {j : Nat} (hj : j < l.length) : ThC w g (0 + j * 13) (thAt l j) := by
  have e : ∀ c u, c < 13 → (thist (thAt l j))[c]? = some u → w.cell? ⟨g, 0 + j * 13 + c, none⟩ = some u := fun c u hc hu => by
    rw [Nat.zero_add]
    exact h _ _ ((flat_at thist_len l j _ (thAt_get hj) c hc).trans hu)
  exact ⟨e 0 _ (by omega) rfl, e 1 _ (by omega) rfl, e 2 _ (by omega) rfl, e 3 _ (by omega) rfl, e 4 _ (by omega) rfl, e 5 _ (by omega) rfl, e 6 _ (by omega) rfl, e 7 _ (by omega) rfl, e 8 _ (by omega) rfl, e 9 _ (by omega) rfl, e 10 _ (by omega) rfl, e 11 _ (by omega) rfl, e 12 _ (by omega) rfl⟩
/-! ### what ownOf has made -/
/-- the parameter's box in g, the result's in q (zeros), the new state's in h; what was ahead of V but for h is as it was -/
structure Ow (W V w : World) (g q h : Nat) (a b c : Int) (A : Option Addr) (n ca : Nat) (C : Option Addr) (m cc : Nat) (v u : Value) : Prop where
  par : Sbx W w g a b c A n ca C m cc
  q0 : w.cell? ⟨q, 0, none⟩ = some (.int .i64 0)
  q1 : w.cell? ⟨q, 1, none⟩ = some (.int .i64 0)
  q2 : w.cell? ⟨q, 2, none⟩ = some (.int .i64 0)
  q3 : w.cell? ⟨q, 3, none⟩ = some (.slice none 0 0)
  q4 : w.cell? ⟨q, 4, none⟩ = some (.slice none 0 0)
  qf : ∀ k, w.frozen? ⟨q, k, none⟩ = false
  h0 : w.cell? ⟨h, 0, none⟩ = some (.int .i64 a)
  h1 : w.cell? ⟨h, 1, none⟩ = some (.int .i64 b)
  h2 : w.cell? ⟨h, 2, none⟩ = some (.int .i64 c)
  h3 : w.cell? ⟨h, 3, none⟩ = some v
  h4 : w.cell? ⟨h, 4, none⟩ = some u
  hf : ∀ k, w.frozen? ⟨h, k, none⟩ = false
  gh : g < h
  qh : q < h
  hV : h < V.heap.size
  stay : ∀ k, k < V.heap.size → k ≠ h → w.heap[k]? = V.heap[k]?
  size : V.heap.size ≤ w.heap.size
section
variable {W V w w' : World} {g q h : Nat} {a b c : Int} {A : Option Addr} {n ca : Nat} {C : Option Addr} {m cc : Nat} {v u x : Value}
theorem Ow.on (k : Ow W V w g q h a b c A n ca C m cc v u) (hb : Below w.heap.size w w') : Ow W V w' g q h a b c A n ca C m cc v u := by
  have lh : h < w.heap.size := Nat.lt_of_lt_of_le k.hV k.size
  have lq : q < w.heap.size := Nat.lt_trans k.qh lh
  have eh : ∀ j, w'.cell? ⟨h, j, none⟩ = w.cell? ⟨h, j, none⟩ := fun j => hb.cell (p := ⟨h, j, none⟩) lh
  have eq : ∀ j, w'.cell? ⟨q, j, none⟩ = w.cell? ⟨q, j, none⟩ := fun j => hb.cell (p := ⟨q, j, none⟩) lq
  exact ⟨k.par.on hb, (eq _).trans k.q0, (eq _).trans k.q1, (eq _).trans k.q2, (eq _).trans k.q3, (eq _).trans k.q4, fun j => by rw [World.frozen?_of_block (w := w) (a := ⟨q, j, none⟩) (hb.block _ lq)]; exact k.qf j,
    (eh _).trans k.h0, (eh _).trans k.h1, (eh _).trans k.h2, (eh _).trans k.h3, (eh _).trans k.h4, fun j => by rw [World.frozen?_of_block (w := w) (a := ⟨h, j, none⟩) (hb.block _ lh)]; exact k.hf j, k.gh, k.qh, k.hV,
    fun j h1 h2 => (hb.block j (Nat.lt_of_lt_of_le h1 k.size)).trans (k.stay j h1 h2), Nat.le_trans k.size hb.size⟩
theorem Ow.grown {row : Option Nat} (k : Ow W V w g q h a b c A n ca C m cc v u) (hg : w.grownBy w' row) (hr : ∀ j, row = some j → V.heap.size ≤ j) : Ow W V w' g q h a b c A n ca C m cc v u := by
  have lh : h < w.heap.size := Nat.lt_of_lt_of_le k.hV k.size
  have lq : q < w.heap.size := Nat.lt_trans k.qh lh
  have bl : ∀ j, j < V.heap.size → w'.heap[j]? = w.heap[j]? := fun j hj => hg.block j (Nat.lt_of_lt_of_le hj k.size) (fun e => by have := hr j e.symm; omega)
  have eh : ∀ j, w'.cell? ⟨h, j, none⟩ = w.cell? ⟨h, j, none⟩ := fun j => World.cell?_of_block (a := ⟨h, j, none⟩) (bl h k.hV)
  have eq : ∀ j, w'.cell? ⟨q, j, none⟩ = w.cell? ⟨q, j, none⟩ := fun j => World.cell?_of_block (a := ⟨q, j, none⟩) (bl q (Nat.lt_trans k.qh k.hV))
  have eg : ∀ j, w'.cell? ⟨g, j, none⟩ = w.cell? ⟨g, j, none⟩ := fun j => World.cell?_of_block (a := ⟨g, j, none⟩) (bl g (Nat.lt_trans k.gh k.hV))
  have hW : W.heap.size ≤ V.heap.size := Nat.le_trans k.par.base (Nat.le_of_lt (Nat.lt_trans k.gh k.hV))
  refine ⟨⟨(eg _).trans k.par.c0, (eg _).trans k.par.c1, (eg _).trans k.par.c2, (eg _).trans k.par.c3, (eg _).trans k.par.c4, k.par.old.grown hg k.par.old.size (fun j e => Nat.le_trans hW (hr j e)), k.par.base, Nat.lt_of_lt_of_le k.par.lt hg.size⟩,
    (eq _).trans k.q0, (eq _).trans k.q1, (eq _).trans k.q2, (eq _).trans k.q3, (eq _).trans k.q4, fun j => by rw [World.frozen?_of_block (w := w) (a := ⟨q, j, none⟩) (bl q (Nat.lt_trans k.qh k.hV))]; exact k.qf j,
    (eh _).trans k.h0, (eh _).trans k.h1, (eh _).trans k.h2, (eh _).trans k.h3, (eh _).trans k.h4, fun j => by rw [World.frozen?_of_block (w := w) (a := ⟨h, j, none⟩) (bl h k.hV)]; exact k.hf j, k.gh, k.qh, k.hV,
    fun j h1 h2 => (bl j h1).trans (k.stay j h1 h2), Nat.le_trans k.size hg.size⟩
theorem Ow.set (k : Ow W V w g q h a b c A n ca C m cc v u) (i : Nat) (x : Value) (hi : i = 3 ∨ i = 4) : Ow W V (w.setCell ⟨h, i, none⟩ x) g q h a b c A n ca C m cc (if i = 3 then x else v) (if i = 4 then x else u) := by
  have hn : ∀ d, d < h → ∀ j, (w.setCell ⟨h, i, none⟩ x).cell? ⟨d, j, none⟩ = w.cell? ⟨d, j, none⟩ := fun d hd j => World.cell?_setCell_other _ _ _ _ (fun q => by injection q with q; omega)
  have hh : ∀ j, j ≠ i → (w.setCell ⟨h, i, none⟩ x).cell? ⟨h, j, none⟩ = w.cell? ⟨h, j, none⟩ := fun j hj => World.cell?_setCell_other _ _ _ _ (fun q => by injection q with _ q; exact hj q.symm)
  have hs : ∀ y, w.cell? ⟨h, i, none⟩ = some y → (w.setCell ⟨h, i, none⟩ x).cell? ⟨h, i, none⟩ = some x := fun y hy => World.cell?_setCell_same _ _ _ hy
  have hW : W.heap.size ≤ h := Nat.le_trans k.par.base (Nat.le_of_lt k.gh)
  refine ⟨⟨(hn g k.gh _).trans k.par.c0, (hn g k.gh _).trans k.par.c1, (hn g k.gh _).trans k.par.c2, (hn g k.gh _).trans k.par.c3, (hn g k.gh _).trans k.par.c4, k.par.old.setCell (p := ⟨h, i, none⟩) hW _, k.par.base, by simpa [World.setCell] using k.par.lt⟩,
    (hn q k.qh _).trans k.q0, (hn q k.qh _).trans k.q1, (hn q k.qh _).trans k.q2, (hn q k.qh _).trans k.q3, (hn q k.qh _).trans k.q4, fun j => by rw [World.frozen?_setCell]; exact k.qf j,
    (hh 0 (by omega)).trans k.h0, (hh 1 (by omega)).trans k.h1, (hh 2 (by omega)).trans k.h2, ?_, ?_, fun j => by rw [World.frozen?_setCell]; exact k.hf j, k.gh, k.qh, k.hV,
    fun j h1 h2 => (Below.heap_setCell _ _ _ _ (by show j ≠ h; omega)).trans (k.stay j h1 h2), by simpa [World.setCell] using k.size⟩
  · by_cases e : i = 3
    · subst e; rw [if_pos rfl]; exact hs _ k.h3
    · rw [if_neg e]; exact (hh 3 (by omega)).trans k.h3
  · by_cases e : i = 4
    · subst e; rw [if_pos rfl]; exact hs _ k.h4
    · rw [if_neg e]; exact (hh 4 (by omega)).trans k.h4
end
theorem Ow.new (w : World) (a b c : Int) (A : Option Addr) (n ca : Nat) (C : Option Addr) (m cc : Nat) (t1 t2 t3 : TypeId) :
    let o1 : Obj := .cells #[.int .i64 a, .int .i64 b, .int .i64 c, .slice A n ca, .slice C m cc] t1
    let o2 : Obj := .cells #[.int .i64 0, .int .i64 0, .int .i64 0, .slice none 0 0, .slice none 0 0] t2
    let o3 : Obj := .cells #[.int .i64 a, .int .i64 b, .int .i64 c, .slice none 0 0, .slice none 0 0] t3
    Ow w (((w.alloc o1).alloc o2).alloc o3) (((w.alloc o1).alloc o2).alloc o3) w.heap.size (w.heap.size + 1) (w.heap.size + 1 + 1) a b c A n ca C m cc (.slice none 0 0) (.slice none 0 0) := by
  intro o1 o2 o3
  have k1 := Sbx.new w a b c A n ca C m cc t1
  have g2 := heap_alloc_new (w.alloc o1) o2
  have g3 := heap_alloc_new ((w.alloc o1).alloc o2) o3
  have b3 := below_alloc ((w.alloc o1).alloc o2) o3
  have z1 : (w.alloc o1).heap.size = w.heap.size + 1 := by simp
  have z2 : ((w.alloc o1).alloc o2).heap.size = w.heap.size + 1 + 1 := by simp
  have eq : ∀ j, (((w.alloc o1).alloc o2).alloc o3).cell? ⟨w.heap.size + 1, j, none⟩ = ((w.alloc o1).alloc o2).cell? ⟨w.heap.size + 1, j, none⟩ := fun j => b3.cell (p := ⟨_, j, none⟩) (by rw [z2]; show w.heap.size + 1 < _; omega)
  rw [z1] at g2
  rw [z2] at g3
  constructor
  case par => exact (k1.on (below_alloc _ _)).on b3
  case qf => exact fun k => by rw [World.frozen?_of_block (w := (w.alloc o1).alloc o2) (a := ⟨w.heap.size + 1, k, none⟩) (b3.block _ (by rw [z2]; show w.heap.size + 1 < _; omega))]; exact frozen_of_row _ _ k _ _ g2
  case hf => exact fun k => frozen_of_row _ _ k _ _ g3
  case gh => omega
  case qh => omega
  case hV => rw [show (((w.alloc o1).alloc o2).alloc o3).heap.size = w.heap.size + 1 + 1 + 1 by simp]; omega
  case stay => exact fun _ _ _ => rfl
  case size => exact Nat.le_refl _
  case h0 => rw [cell_of_row _ _ _ _ _ _ g3]; rfl
  case h1 => rw [cell_of_row _ _ _ _ _ _ g3]; rfl
  case h2 => rw [cell_of_row _ _ _ _ _ _ g3]; rfl
  case h3 => rw [cell_of_row _ _ _ _ _ _ g3]; rfl
  case h4 => rw [cell_of_row _ _ _ _ _ _ g3]; rfl
  all_goals (rw [eq, cell_of_row _ _ _ _ _ _ g2]; rfl)
def put5 (w : World) (q : Nat) (v0 v1 v2 v3 v4 : Value) : World := ((((w.setCell ⟨q, 0, none⟩ v0).setCell ⟨q, 1, none⟩ v1).setCell ⟨q, 2, none⟩ v2).setCell ⟨q, 3, none⟩ v3).setCell ⟨q, 4, none⟩ v4
theorem put5_heap (w : World) (q : Nat) (v0 v1 v2 v3 v4 : Value) {k : Nat} (h : k ≠ q) : (put5 w q v0 v1 v2 v3 v4).heap[k]? = w.heap[k]? := by
  unfold put5
  iterate 5 refine (Below.heap_setCell _ _ _ _ (by exact h)).trans ?_
  rfl
theorem put5_size (w : World) (q : Nat) (v0 v1 v2 v3 v4 : Value) : (put5 w q v0 v1 v2 v3 v4).heap.size = w.heap.size := by simp [put5, World.setCell]
theorem put5_below {W w : World} (hb : Below W.heap.size W w) {q : Nat} (hq : W.heap.size ≤ q) (v0 v1 v2 v3 v4 : Value) : Below W.heap.size W (put5 w q v0 v1 v2 v3 v4) :=
  ((((hb.setCell (p := ⟨q, 0, none⟩) hq _).setCell (p := ⟨q, 1, none⟩) hq _).setCell (p := ⟨q, 2, none⟩) hq _).setCell (p := ⟨q, 3, none⟩) hq _).setCell (p := ⟨q, 4, none⟩) hq _
theorem put5_cells {w : World} {q : Nat} {u0 u1 u2 u3 u4 : Value} (h0 : w.cell? ⟨q, 0, none⟩ = some u0) (h1 : w.cell? ⟨q, 1, none⟩ = some u1) (h2 : w.cell? ⟨q, 2, none⟩ = some u2) (h3 : w.cell? ⟨q, 3, none⟩ = some u3) (h4 : w.cell? ⟨q, 4, none⟩ = some u4) (v0 v1 v2 v3 v4 : Value) :
    (put5 w q v0 v1 v2 v3 v4).cell? ⟨q, 0, none⟩ = some v0 ∧ (put5 w q v0 v1 v2 v3 v4).cell? ⟨q, 1, none⟩ = some v1 ∧ (put5 w q v0 v1 v2 v3 v4).cell? ⟨q, 2, none⟩ = some v2 ∧ (put5 w q v0 v1 v2 v3 v4).cell? ⟨q, 3, none⟩ = some v3 ∧ (put5 w q v0 v1 v2 v3 v4).cell? ⟨q, 4, none⟩ = some v4 := by
  have o : ∀ (z : World) (i j : Nat) (x : Value), j ≠ i → (z.setCell ⟨q, i, none⟩ x).cell? ⟨q, j, none⟩ = z.cell? ⟨q, j, none⟩ := fun z i j x h => World.cell?_setCell_other _ _ _ _ (fun e => by injection e with _ e; exact h e.symm)
  have s : ∀ (z : World) (i : Nat) (x y : Value), z.cell? ⟨q, i, none⟩ = some y → (z.setCell ⟨q, i, none⟩ x).cell? ⟨q, i, none⟩ = some x := fun z i x y h => World.cell?_setCell_same _ _ _ h
  unfold put5
  refine ⟨?_, ?_, ?_, ?_, ?_⟩
  · rw [o _ 4 0 _ (by omega), o _ 3 0 _ (by omega), o _ 2 0 _ (by omega), o _ 1 0 _ (by omega)]; exact s _ _ _ _ h0
  · rw [o _ 4 1 _ (by omega), o _ 3 1 _ (by omega), o _ 2 1 _ (by omega)]; exact s _ _ _ _ ((o _ 0 1 _ (by omega)).trans h1)
  · rw [o _ 4 2 _ (by omega), o _ 3 2 _ (by omega)]; exact s _ _ _ _ (((o _ 1 2 _ (by omega)).trans (o _ 0 2 _ (by omega))).trans h2)
  · rw [o _ 4 3 _ (by omega)]; exact s _ _ _ _ ((((o _ 2 3 _ (by omega)).trans (o _ 1 3 _ (by omega))).trans (o _ 0 3 _ (by omega))).trans h3)
  · exact s _ _ _ _ (((((o _ 3 4 _ (by omega)).trans (o _ 2 4 _ (by omega))).trans (o _ 1 4 _ (by omega))).trans (o _ 0 4 _ (by omega))).trans h4)
theorem ownsRow_on {w w' : World} {B : Nat} {T : TypeId} {k n : Nat} {v : Value} {xs : List Value} (h : w.ownsRow B T k v n xs) (hb : Below w.heap.size w w') : w'.ownsRow B T k v n xs :=
  h.kept (row := none) ⟨hb.os, hb.tape, hb.output, hb.size, fun j hj _ => hb.block j hj⟩ (by cases v.ownBlock <;> simp)
/-- the state that is handed back -/
def OwnF (w w' : World) (e : Ending) (a b c : Int) (n m : Nat) (s : St) : Prop := ∃ A' ca' C' cc', e = .returned (.agg #[.int .i64 a, .int .i64 b, .int .i64 c, .slice A' n ca', .slice C' m cc']) ∧ StAt w' s A' C' ∧ Below w.heap.size w w'
end Go.Proofs.Ythooeahpfegjbaa
