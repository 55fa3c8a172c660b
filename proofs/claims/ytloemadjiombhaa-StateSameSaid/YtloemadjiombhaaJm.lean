/-
  The law's own thingOf and ownOf: a state of the program's as the document's own. Condition: it lies in memory, at most a thousand slots and things.
-/
import Derived.Test.YtloemadjiombhaaJl
import Derived.Deep.RegionLaw
import Derived.Deep.AppendLies
import Derived.Laws.AppendOwn
import Derived.Laws.OwnMore
namespace Go.Proofs.Ytloemadjiombhaa
open Go.RowKit

theorem lthingof_any (t : Tng) (w : World) : Calls Try.prog 51 #[t.val] w fun e w' => e = .returned t.val ∧ Below w.heap.size w w' := by
  unfold Tng.val
  go_enter Try.func51, Try.ntmps51
  go_wp2_with fail
  go_returns
  exact ⟨rfl, below_on (below_alloc _ _) (below_alloc _ _)⟩

/-! ### slots and things written out -/
def slist (x : Sl) : List Value := [.int .i64 x.c.ty, .int .i64 x.c.th, .int .i64 x.c.ri, .int .i64 x.c.ba, .int .i64 x.up]
def thist (t : Tng) : List Value := [.int .i64 t.ty, .int .i64 t.bits, .int .i64 t.base, .int .i64 t.size, .int .i64 t.used, .int .i64 t.frm, .int .i64 t.badge, .bool t.full, .int .u64 (t.word : Int), .int .u64 (t.d0 : Int), .int .u64 (t.d1 : Int), .int .u64 (t.d2 : Int), .int .u64 (t.d3 : Int)]
def sflat (l : List Sl) : List Value := l.flatMap slist
def tflat (l : List Tng) : List Value := l.flatMap thist
theorem flat_at {α : Type} {f : α → List Value} {k : Nat} (hf : ∀ x, (f x).length = k) : ∀ (l : List α) (j : Nat) (x : α), l[j]? = some x → ∀ c, c < k → (l.flatMap f)[j * k + c]? = (f x)[c]?
  | y :: l, 0, x, h, c, hc => by
    obtain rfl : y = x := by simpa using h
    rw [List.flatMap_cons, List.getElem?_append_left (by rw [hf]; omega), Nat.zero_mul, Nat.zero_add]
  | y :: l, j + 1, x, h, c, hc => by
    have := flat_at hf l j x (by simpa using h) c hc
    have e : (j + 1) * k + c = k + (j * k + c) := by rw [Nat.add_mul]; omega
    rw [List.flatMap_cons, e, List.getElem?_append_right (by rw [hf]; omega), hf, Nat.add_sub_cancel_left, this]
theorem flat_len {α : Type} {f : α → List Value} {k : Nat} (hf : ∀ x, (f x).length = k) : ∀ l : List α, (l.flatMap f).length = l.length * k
  | [] => by simp
  | y :: l => by rw [List.flatMap_cons, List.length_append, hf, flat_len hf l, List.length_cons, Nat.add_mul]; omega
theorem slist_len (x : Sl) : (slist x).length = 5 := rfl
theorem thist_len (t : Tng) : (thist t).length = 13 := rfl
theorem sflat_len (l : List Sl) : (sflat l).length = l.length * 5 := flat_len slist_len l
theorem tflat_len (l : List Tng) : (tflat l).length = l.length * 13 := flat_len thist_len l
theorem sflat_succ {l : List Sl} {i : Nat} (h : i < l.length) : sflat (l.take (i + 1)) = sflat (l.take i) ++ slist (slAt l i) := by
  rw [List.take_add_one, slAt_get h, sflat, List.flatMap_append]
  simp [sflat]
theorem tflat_succ {l : List Tng} {i : Nat} (h : i < l.length) : tflat (l.take (i + 1)) = tflat (l.take i) ++ thist (thAt l i) := by
  rw [List.take_add_one, thAt_get h, tflat, List.flatMap_append]
  simp [tflat]
theorem SlC.of_flat {w : World} {g : Nat} {l : List Sl} (h : ∀ k u, (sflat l)[k]? = some u → w.cell? ⟨g, k, none⟩ = some u) {j : Nat} (hj : j < l.length) : SlC w g (0 + j * 5) (slAt l j) := by
  have e : ∀ c u, c < 5 → (slist (slAt l j))[c]? = some u → w.cell? ⟨g, 0 + j * 5 + c, none⟩ = some u := fun c u hc hu => by
    rw [Nat.zero_add]
    exact h _ _ ((flat_at slist_len l j _ (slAt_get hj) c hc).trans hu)
  exact ⟨e 0 _ (by omega) rfl, e 1 _ (by omega) rfl, e 2 _ (by omega) rfl, e 3 _ (by omega) rfl, e 4 _ (by omega) rfl⟩
theorem ThC.of_flat {w : World} {g : Nat} {l : List Tng} (h : ∀ k u, (tflat l)[k]? = some u → w.cell? ⟨g, k, none⟩ = some u) {j : Nat} (hj : j < l.length) : ThC w g (0 + j * 13) (thAt l j) := by
  have e : ∀ c u, c < 13 → (thist (thAt l j))[c]? = some u → w.cell? ⟨g, 0 + j * 13 + c, none⟩ = some u := fun c u hc hu => by
    rw [Nat.zero_add]
    exact h _ _ ((flat_at thist_len l j _ (thAt_get hj) c hc).trans hu)
  exact ⟨e 0 _ (by omega) rfl, e 1 _ (by omega) rfl, e 2 _ (by omega) rfl, e 3 _ (by omega) rfl, e 4 _ (by omega) rfl, e 5 _ (by omega) rfl, e 6 _ (by omega) rfl, e 7 _ (by omega) rfl, e 8 _ (by omega) rfl, e 9 _ (by omega) rfl, e 10 _ (by omega) rfl, e 11 _ (by omega) rfl, e 12 _ (by omega) rfl⟩
theorem infosl_all : (Try.prog.info? 86).map (fun i => (i.zero, i.size, i.bytes)) = some (some Sl.zero.val, 5, 40) := by kernel_rfl
theorem infosl_parts : ∃ i : TypeInfo, Try.prog.info? 86 = some i ∧ i.zero = some Sl.zero.val ∧ i.size = 5 ∧ i.bytes = 40 := by
  have h := infosl_all
  cases hq : Try.prog.info? 86 with
  | none => simp [hq] at h
  | some i =>
    simp [hq] at h
    exact ⟨i, rfl, h.1, h.2.1, h.2.2⟩
theorem infoth_all : (Try.prog.info? 87).map (fun i => (i.zero, i.size, i.bytes)) = some (some Tng.zero.val, 13, 104) := by kernel_rfl
theorem infoth_parts : ∃ i : TypeInfo, Try.prog.info? 87 = some i ∧ i.zero = some Tng.zero.val ∧ i.size = 13 ∧ i.bytes = 104 := by
  have h := infoth_all
  cases hq : Try.prog.info? 87 with
  | none => simp [hq] at h
  | some i =>
    simp [hq] at h
    exact ⟨i, rfl, h.1, h.2.1, h.2.2⟩

/-! ### what ownOf has made -/
/-- the parameter's box in g, the result's in q (zeros), the new state's in h; what was ahead of V but for h is as it was -/
structure Ow (W V w : World) (g q h : Nat) (a b c : Int) (A : Option Addr) (n ca : Nat) (C : Option Addr) (m cc : Nat) (v u : Value) : Prop where
  par : Sbx W w g a b c A n ca C m cc
  q0 : w.cell? ⟨q, 0, none⟩ = some (.int .i64 0)
  q1 : w.cell? ⟨q, 1, none⟩ = some (.int .i64 0)
  q2 : w.cell? ⟨q, 2, none⟩ = some (.int .i64 0)
  q3 : w.cell? ⟨q, 3, none⟩ = some (.slice none 0 0)
  q4 : w.cell? ⟨q, 4, none⟩ = some (.slice none 0 0)
  qf : ∀ k, w.frozen? ⟨q, k, none⟩ = false
  h0 : w.cell? ⟨h, 0, none⟩ = some (.int .i64 a)
  h1 : w.cell? ⟨h, 1, none⟩ = some (.int .i64 b)
  h2 : w.cell? ⟨h, 2, none⟩ = some (.int .i64 c)
  h3 : w.cell? ⟨h, 3, none⟩ = some v
  h4 : w.cell? ⟨h, 4, none⟩ = some u
  hf : ∀ k, w.frozen? ⟨h, k, none⟩ = false
  gh : g < h
  qh : q < h
  hV : h < V.heap.size
  stay : ∀ k, k < V.heap.size → k ≠ h → w.heap[k]? = V.heap[k]?
  size : V.heap.size ≤ w.heap.size
section
variable {W V w w' : World} {g q h : Nat} {a b c : Int} {A : Option Addr} {n ca : Nat} {C : Option Addr} {m cc : Nat} {v u x : Value}
theorem Ow.on (k : Ow W V w g q h a b c A n ca C m cc v u) (hb : Below w.heap.size w w') : Ow W V w' g q h a b c A n ca C m cc v u := by
  have lh : h < w.heap.size := Nat.lt_of_lt_of_le k.hV k.size
  have lq : q < w.heap.size := Nat.lt_trans k.qh lh
  have eh : ∀ j, w'.cell? ⟨h, j, none⟩ = w.cell? ⟨h, j, none⟩ := fun j => hb.cell (p := ⟨h, j, none⟩) lh
  have eq : ∀ j, w'.cell? ⟨q, j, none⟩ = w.cell? ⟨q, j, none⟩ := fun j => hb.cell (p := ⟨q, j, none⟩) lq
  exact ⟨k.par.on hb, (eq _).trans k.q0, (eq _).trans k.q1, (eq _).trans k.q2, (eq _).trans k.q3, (eq _).trans k.q4, fun j => by rw [World.frozen?_of_block (w := w) (a := ⟨q, j, none⟩) (hb.block _ lq)]; exact k.qf j,
    (eh _).trans k.h0, (eh _).trans k.h1, (eh _).trans k.h2, (eh _).trans k.h3, (eh _).trans k.h4, fun j => by rw [World.frozen?_of_block (w := w) (a := ⟨h, j, none⟩) (hb.block _ lh)]; exact k.hf j, k.gh, k.qh, k.hV,
    fun j h1 h2 => (hb.block j (Nat.lt_of_lt_of_le h1 k.size)).trans (k.stay j h1 h2), Nat.le_trans k.size hb.size⟩
theorem Ow.grown {row : Option Nat} (k : Ow W V w g q h a b c A n ca C m cc v u) (hg : w.grownBy w' row) (hr : ∀ j, row = some j → V.heap.size ≤ j) : Ow W V w' g q h a b c A n ca C m cc v u := by
  have lh : h < w.heap.size := Nat.lt_of_lt_of_le k.hV k.size
  have lq : q < w.heap.size := Nat.lt_trans k.qh lh
  have bl : ∀ j, j < V.heap.size → w'.heap[j]? = w.heap[j]? := fun j hj => hg.block j (Nat.lt_of_lt_of_le hj k.size) (fun e => by have := hr j e.symm; omega)
  have eh : ∀ j, w'.cell? ⟨h, j, none⟩ = w.cell? ⟨h, j, none⟩ := fun j => World.cell?_of_block (a := ⟨h, j, none⟩) (bl h k.hV)
  have eq : ∀ j, w'.cell? ⟨q, j, none⟩ = w.cell? ⟨q, j, none⟩ := fun j => World.cell?_of_block (a := ⟨q, j, none⟩) (bl q (Nat.lt_trans k.qh k.hV))
  have eg : ∀ j, w'.cell? ⟨g, j, none⟩ = w.cell? ⟨g, j, none⟩ := fun j => World.cell?_of_block (a := ⟨g, j, none⟩) (bl g (Nat.lt_trans k.gh k.hV))
  have hW : W.heap.size ≤ V.heap.size := Nat.le_trans k.par.base (Nat.le_of_lt (Nat.lt_trans k.gh k.hV))
  refine ⟨⟨(eg _).trans k.par.c0, (eg _).trans k.par.c1, (eg _).trans k.par.c2, (eg _).trans k.par.c3, (eg _).trans k.par.c4, k.par.old.grown hg k.par.old.size (fun j e => Nat.le_trans hW (hr j e)), k.par.base, Nat.lt_of_lt_of_le k.par.lt hg.size⟩,
    (eq _).trans k.q0, (eq _).trans k.q1, (eq _).trans k.q2, (eq _).trans k.q3, (eq _).trans k.q4, fun j => by rw [World.frozen?_of_block (w := w) (a := ⟨q, j, none⟩) (bl q (Nat.lt_trans k.qh k.hV))]; exact k.qf j,
    (eh _).trans k.h0, (eh _).trans k.h1, (eh _).trans k.h2, (eh _).trans k.h3, (eh _).trans k.h4, fun j => by rw [World.frozen?_of_block (w := w) (a := ⟨h, j, none⟩) (bl h k.hV)]; exact k.hf j, k.gh, k.qh, k.hV,
    fun j h1 h2 => (bl j h1).trans (k.stay j h1 h2), Nat.le_trans k.size hg.size⟩
theorem Ow.set (k : Ow W V w g q h a b c A n ca C m cc v u) (i : Nat) (x : Value) (hi : i = 3 ∨ i = 4) : Ow W V (w.setCell ⟨h, i, none⟩ x) g q h a b c A n ca C m cc (if i = 3 then x else v) (if i = 4 then x else u) := by
  have hn : ∀ d, d < h → ∀ j, (w.setCell ⟨h, i, none⟩ x).cell? ⟨d, j, none⟩ = w.cell? ⟨d, j, none⟩ := fun d hd j => World.cell?_setCell_other _ _ _ _ (fun q => by injection q with q; omega)
  have hh : ∀ j, j ≠ i → (w.setCell ⟨h, i, none⟩ x).cell? ⟨h, j, none⟩ = w.cell? ⟨h, j, none⟩ := fun j hj => World.cell?_setCell_other _ _ _ _ (fun q => by injection q with _ q; exact hj q.symm)
  have hs : ∀ y, w.cell? ⟨h, i, none⟩ = some y → (w.setCell ⟨h, i, none⟩ x).cell? ⟨h, i, none⟩ = some x := fun y hy => World.cell?_setCell_same _ _ _ hy
  have hW : W.heap.size ≤ h := Nat.le_trans k.par.base (Nat.le_of_lt k.gh)
  refine ⟨⟨(hn g k.gh _).trans k.par.c0, (hn g k.gh _).trans k.par.c1, (hn g k.gh _).trans k.par.c2, (hn g k.gh _).trans k.par.c3, (hn g k.gh _).trans k.par.c4, k.par.old.setCell (p := ⟨h, i, none⟩) hW _, k.par.base, by simpa [World.setCell] using k.par.lt⟩,
    (hn q k.qh _).trans k.q0, (hn q k.qh _).trans k.q1, (hn q k.qh _).trans k.q2, (hn q k.qh _).trans k.q3, (hn q k.qh _).trans k.q4, fun j => by rw [World.frozen?_setCell]; exact k.qf j,
    (hh 0 (by omega)).trans k.h0, (hh 1 (by omega)).trans k.h1, (hh 2 (by omega)).trans k.h2, ?_, ?_, fun j => by rw [World.frozen?_setCell]; exact k.hf j, k.gh, k.qh, k.hV,
    fun j h1 h2 => (Below.heap_setCell _ _ _ _ (by show j ≠ h; omega)).trans (k.stay j h1 h2), by simpa [World.setCell] using k.size⟩
  · by_cases e : i = 3
    · subst e; rw [if_pos rfl]; exact hs _ k.h3
    · rw [if_neg e]; exact (hh 3 (by omega)).trans k.h3
  · by_cases e : i = 4
    · subst e; rw [if_pos rfl]; exact hs _ k.h4
    · rw [if_neg e]; exact (hh 4 (by omega)).trans k.h4
end
theorem Ow.new (w : World) (a b c : Int) (A : Option Addr) (n ca : Nat) (C : Option Addr) (m cc : Nat) (t1 t2 t3 : TypeId) :
    let o1 : Obj := .cells #[.int .i64 a, .int .i64 b, .int .i64 c, .slice A n ca, .slice C m cc] t1
    let o2 : Obj := .cells #[.int .i64 0, .int .i64 0, .int .i64 0, .slice none 0 0, .slice none 0 0] t2
    let o3 : Obj := .cells #[.int .i64 a, .int .i64 b, .int .i64 c, .slice none 0 0, .slice none 0 0] t3
    Ow w (((w.alloc o1).alloc o2).alloc o3) (((w.alloc o1).alloc o2).alloc o3) w.heap.size (w.heap.size + 1) (w.heap.size + 1 + 1) a b c A n ca C m cc (.slice none 0 0) (.slice none 0 0) := by
  intro o1 o2 o3
  have k1 := Sbx.new w a b c A n ca C m cc t1
  have g2 := heap_alloc_new (w.alloc o1) o2
  have g3 := heap_alloc_new ((w.alloc o1).alloc o2) o3
  have b3 := below_alloc ((w.alloc o1).alloc o2) o3
  have z1 : (w.alloc o1).heap.size = w.heap.size + 1 := by simp
  have z2 : ((w.alloc o1).alloc o2).heap.size = w.heap.size + 1 + 1 := by simp
  have eq : ∀ j, (((w.alloc o1).alloc o2).alloc o3).cell? ⟨w.heap.size + 1, j, none⟩ = ((w.alloc o1).alloc o2).cell? ⟨w.heap.size + 1, j, none⟩ := fun j => b3.cell (p := ⟨_, j, none⟩) (by rw [z2]; show w.heap.size + 1 < _; omega)
  rw [z1] at g2
  rw [z2] at g3
  constructor
  case par => exact (k1.on (below_alloc _ _)).on b3
  case qf => exact fun k => by rw [World.frozen?_of_block (w := (w.alloc o1).alloc o2) (a := ⟨w.heap.size + 1, k, none⟩) (b3.block _ (by rw [z2]; show w.heap.size + 1 < _; omega))]; exact frozen_of_row _ _ k _ _ g2
  case hf => exact fun k => frozen_of_row _ _ k _ _ g3
  case gh => omega
  case qh => omega
  case hV => rw [show (((w.alloc o1).alloc o2).alloc o3).heap.size = w.heap.size + 1 + 1 + 1 by simp]; omega
  case stay => exact fun _ _ _ => rfl
  case size => exact Nat.le_refl _
  case h0 => rw [cell_of_row _ _ _ _ _ _ g3]; rfl
  case h1 => rw [cell_of_row _ _ _ _ _ _ g3]; rfl
  case h2 => rw [cell_of_row _ _ _ _ _ _ g3]; rfl
  case h3 => rw [cell_of_row _ _ _ _ _ _ g3]; rfl
  case h4 => rw [cell_of_row _ _ _ _ _ _ g3]; rfl
  all_goals (rw [eq, cell_of_row _ _ _ _ _ _ g2]; rfl)
def OwR1 (W V : World) (g q h : Nat) (a b c : Int) (A : Option Addr) (n ca : Nat) (C : Option Addr) (m cc : Nat) (sl : List Sl) (f : Nat) (p : Value) (wr : World) : Prop :=
  ∃ (i : Nat) (v : Value), f + i = n ∧ p = .int .i64 i ∧ Ow W V wr g q h a b c A n ca C m cc v (.slice none 0 0) ∧ wr.ownsRow V.heap.size 86 5 v i (sflat (sl.take i))
def put5 (w : World) (q : Nat) (v0 v1 v2 v3 v4 : Value) : World := ((((w.setCell ⟨q, 0, none⟩ v0).setCell ⟨q, 1, none⟩ v1).setCell ⟨q, 2, none⟩ v2).setCell ⟨q, 3, none⟩ v3).setCell ⟨q, 4, none⟩ v4
theorem put5_heap (w : World) (q : Nat) (v0 v1 v2 v3 v4 : Value) {k : Nat} (h : k ≠ q) : (put5 w q v0 v1 v2 v3 v4).heap[k]? = w.heap[k]? := by
  unfold put5
  iterate 5 refine (Below.heap_setCell _ _ _ _ (by exact h)).trans ?_
  rfl
theorem put5_size (w : World) (q : Nat) (v0 v1 v2 v3 v4 : Value) : (put5 w q v0 v1 v2 v3 v4).heap.size = w.heap.size := by simp [put5, World.setCell]
theorem put5_below {W w : World} (hb : Below W.heap.size W w) {q : Nat} (hq : W.heap.size ≤ q) (v0 v1 v2 v3 v4 : Value) : Below W.heap.size W (put5 w q v0 v1 v2 v3 v4) :=
  ((((hb.setCell (p := ⟨q, 0, none⟩) hq _).setCell (p := ⟨q, 1, none⟩) hq _).setCell (p := ⟨q, 2, none⟩) hq _).setCell (p := ⟨q, 3, none⟩) hq _).setCell (p := ⟨q, 4, none⟩) hq _
theorem put5_cells {w : World} {q : Nat} {u0 u1 u2 u3 u4 : Value} (h0 : w.cell? ⟨q, 0, none⟩ = some u0) (h1 : w.cell? ⟨q, 1, none⟩ = some u1) (h2 : w.cell? ⟨q, 2, none⟩ = some u2) (h3 : w.cell? ⟨q, 3, none⟩ = some u3) (h4 : w.cell? ⟨q, 4, none⟩ = some u4) (v0 v1 v2 v3 v4 : Value) :
    (put5 w q v0 v1 v2 v3 v4).cell? ⟨q, 0, none⟩ = some v0 ∧ (put5 w q v0 v1 v2 v3 v4).cell? ⟨q, 1, none⟩ = some v1 ∧ (put5 w q v0 v1 v2 v3 v4).cell? ⟨q, 2, none⟩ = some v2 ∧ (put5 w q v0 v1 v2 v3 v4).cell? ⟨q, 3, none⟩ = some v3 ∧ (put5 w q v0 v1 v2 v3 v4).cell? ⟨q, 4, none⟩ = some v4 := by
  have o : ∀ (z : World) (i j : Nat) (x : Value), j ≠ i → (z.setCell ⟨q, i, none⟩ x).cell? ⟨q, j, none⟩ = z.cell? ⟨q, j, none⟩ := fun z i j x h => World.cell?_setCell_other _ _ _ _ (fun e => by injection e with _ e; exact h e.symm)
  have s : ∀ (z : World) (i : Nat) (x y : Value), z.cell? ⟨q, i, none⟩ = some y → (z.setCell ⟨q, i, none⟩ x).cell? ⟨q, i, none⟩ = some x := fun z i x y h => World.cell?_setCell_same _ _ _ h
  unfold put5
  refine ⟨?_, ?_, ?_, ?_, ?_⟩
  · rw [o _ 4 0 _ (by omega), o _ 3 0 _ (by omega), o _ 2 0 _ (by omega), o _ 1 0 _ (by omega)]; exact s _ _ _ _ h0
  · rw [o _ 4 1 _ (by omega), o _ 3 1 _ (by omega), o _ 2 1 _ (by omega)]; exact s _ _ _ _ ((o _ 0 1 _ (by omega)).trans h1)
  · rw [o _ 4 2 _ (by omega), o _ 3 2 _ (by omega)]; exact s _ _ _ _ (((o _ 1 2 _ (by omega)).trans (o _ 0 2 _ (by omega))).trans h2)
  · rw [o _ 4 3 _ (by omega)]; exact s _ _ _ _ ((((o _ 2 3 _ (by omega)).trans (o _ 1 3 _ (by omega))).trans (o _ 0 3 _ (by omega))).trans h3)
  · exact s _ _ _ _ (((((o _ 3 4 _ (by omega)).trans (o _ 2 4 _ (by omega))).trans (o _ 1 4 _ (by omega))).trans (o _ 0 4 _ (by omega))).trans h4)
def OwR2 (W V : World) (g q h : Nat) (a b c : Int) (A : Option Addr) (n ca : Nat) (C : Option Addr) (m cc : Nat) (u : Value) (th : List Tng) (f : Nat) (p : Value) (wr : World) : Prop :=
  ∃ (i : Nat) (v : Value), f + i = m ∧ p = .int .i64 i ∧ Ow W V wr g q h a b c A n ca C m cc u v ∧ wr.ownsRow V.heap.size 87 13 v i (tflat (th.take i))
theorem ownsRow_on {w w' : World} {B : Nat} {T : TypeId} {k n : Nat} {v : Value} {xs : List Value} (h : w.ownsRow B T k v n xs) (hb : Below w.heap.size w w') : w'.ownsRow B T k v n xs :=
  h.kept (row := none) ⟨hb.os, hb.tape, hb.output, hb.size, fun j hj _ => hb.block j hj⟩ (by cases v.ownBlock <;> simp)
/-- the state that is handed back -/
def OwnF (w w' : World) (e : Ending) (a b c : Int) (n m : Nat) (s : St) : Prop := ∃ A' ca' C' cc', e = .returned (.agg #[.int .i64 a, .int .i64 b, .int .i64 c, .slice A' n ca', .slice C' m cc']) ∧ StAt w' s A' C' ∧ Below w.heap.size w w'
set_option maxHeartbeats 8000000 in
theorem lownof_is {s : St} {a b c : Int} {A C : Option Addr} {n ca m cc : Nat} {w : World} (hS : StAt w s A C) (hn : n = s.sl.length) (hm : m = s.th.length) (few : n ≤ 1000) (few2 : m ≤ 1000) :
    Calls Try.prog 24 #[.agg #[.int .i64 a, .int .i64 b, .int .i64 c, .slice A n ca, .slice C m cc]] w fun e w' => OwnF w w' e a b c n m s := by
  have hK := Ow.new w a b c A n ca C m cc 28 62 62
  simp only at hK
  have HS := Lib.hid hS
  have HN := Lib.hid hn
  have HM := Lib.hid hm
  clear hS hn hm
  go_enter Try.func24, Try.ntmps24
  go_wp2_with fail
  obtain ⟨g, hg⟩ : ∃ g, g = w.heap.size := ⟨_, rfl⟩
  obtain ⟨q, hq⟩ : ∃ q, q = w.heap.size + 1 := ⟨_, rfl⟩
  obtain ⟨h, hh⟩ : ∃ h, h = w.heap.size + 1 + 1 := ⟨_, rfl⟩
  have HQ0 : Hid (w.heap.size ≤ q) := Lib.hid (by omega)
  rw [← hh, ← hq, ← hg] at hK ⊢
  clear hg hq hh
  generalize ((w.alloc _).alloc _).alloc _ = w3 at hK ⊢
  have HK := Lib.hid hK
  clear hK
  go_loopg [4] n (fun f p wr => OwR1 w w3 g q h a b c A n ca C m cc s.sl f p wr)
  case atStart => exact ⟨0, _, by omega, rfl, HK.out, World.ownsRow_nil _ _ _ _⟩
  case round =>
    obtain ⟨i, v, hk, rfl, hb, ho⟩ := hrel
    have HI := Lib.hid hk
    have HB := Lib.hid hb
    have HO := Lib.hid ho
    obtain ⟨⟨-, -, -, c3, -, old, -, lt⟩, -, -, -, -, -, -, -, -, -, -, -, -, -, -, -, -, -⟩ := hb
    clear hk ho
    by_cases hlt : i < n
    · have HLT := Lib.hid hlt
      have hlt2 : (i : Int) < (n : Int) := by omega
      obtain ⟨sb, sp, rfl, hsb, hc⟩ := HS.out.sl (by rw [← HN.out]; omega)
      have hT : SlC wr sb (sp + i * 5) (slAt s.sl i) := (hc i (by rw [← HN.out]; exact hlt)).same fun k => old.cell (p := ⟨sb, k, none⟩) hsb
      have HU := Lib.hid (sflat_succ (l := s.sl) (i := i) (by rw [← HN.out]; exact hlt))
      have hsb2 : sb < wr.heap.size := Nat.lt_of_lt_of_le hsb old.size
      generalize slAt s.sl i = y at hT HU
      obtain ⟨⟨ty, th, ri, ba⟩, up⟩ := y
      obtain ⟨s0, s1, s2, s3, s4⟩ := hT
      simp only [slist] at s0 s1 s2 s3 s4 HU
      have hF := Fr.new wr ty th ri ba 35
      have HB2 := Lib.hid (HB.out.on hF.old)
      have HO2 := Lib.hid (HO.out.alloc (.cells #[.int .i64 ty, .int .i64 th, .int .i64 ri, .int .i64 ba] 35))
      have hsb3 : sb < w.heap.size := hsb
      have u4 := (hF.old.cell (p := ⟨sb, sp + i * 5 + 4, none⟩) hsb2).trans s4
      clear hc
      go_wp2_with fail
      obtain ⟨P, hP⟩ : ∃ P, P = wr.heap.size := ⟨_, rfl⟩
      rw [← hP] at hF ⊢
      have HF := Lib.hid hF
      have HVP : Hid (v.ownBlock ≠ some P) := Lib.hid (fun e => by have := (HO.out.lt P e).2; omega)
      have HPW : Hid (w3.heap.size ≤ P) := Lib.hid (by rw [hP]; exact HB.out.size)
      clear hP hF s0 s1 s2 s3 s4 c3 old lt hsb2 HB HO
      generalize wr.alloc _ = w5 at HF HB2 HO2 u4 ⊢
      have hO2 := HO2.out
      have hv0 : ∀ k, v.ownBlock = some k → w3.heap.size ≤ k := fun k e => (hO2.lt k e).1
      have HV0 := Lib.hid hv0
      have HO6 : Hid ((w5.drew.alloc (.cells #[.int .i64 ty, .int .i64 th, .int .i64 ri, .int .i64 ba, .int .i64 up] 86)).ownsRow w3.heap.size 86 5 v i (sflat (s.sl.take i))) := Lib.hid (hO2.alloc _)
      have HB6 : Hid (Ow w w3 (w5.drew.alloc (.cells #[.int .i64 ty, .int .i64 th, .int .i64 ri, .int .i64 ba, .int .i64 up] 86)) g q h a b c (some ⟨sb, sp, none⟩) n ca C m cc v (.slice none 0 0)) := Lib.hid ((HB2.out.on (below_self w5).drew).on (below_alloc _ _))
      have hnew : ∀ j u, [Value.int .i64 ty, .int .i64 th, .int .i64 ri, .int .i64 ba, .int .i64 up][j]? = some u → (w5.drew.alloc (.cells #[.int .i64 ty, .int .i64 th, .int .i64 ri, .int .i64 ba, .int .i64 up] 86)).cell? ((⟨w5.heap.size, 0, none⟩ : Addr).add j) = some u := fun j u hu => by
        rw [Addr.add_mid, Nat.zero_add]
        have := cell_of_row _ _ j _ _ _ (heap_alloc_new w5.drew (.cells #[.int .i64 ty, .int .i64 th, .int .i64 ri, .int .i64 ba, .int .i64 up] 86))
        refine Eq.trans this ?_
        rw [← hu]; simp
      have HNEW := Lib.hid hnew
      have HSZ : Hid (w3.heap.size ≤ (w5.drew.alloc (.cells #[.int .i64 ty, .int .i64 th, .int .i64 ri, .int .i64 ba, .int .i64 up] 86)).heap.size) := Lib.hid HB6.out.size
      obtain ⟨i0, hii, hz0, hz1, hz2⟩ := infosl_parts
      have HONE : Hid (∀ u ∈ [Value.int .i64 ty, .int .i64 th, .int .i64 ri, .int .i64 ba, .int .i64 up], u.oneCell' = true) := Lib.hid (by intro u hu; simp at hu; rcases hu with rfl | rfl | rfl | rfl | rfl <;> rfl)
      have HC3 : Hid (i + 1 ≤ maxLen) := Lib.hid (by unfold maxLen; omega)
      have HC4 : Hid ((i + 1) * 40 ≤ 140737488355328) := Lib.hid (by omega)
      obtain ⟨f0, f1, f2, f3, -, flt, -, -⟩ := HF.out
      obtain ⟨⟨-, -, -, c3, -, -, -, lt⟩, -, -, -, -, -, -, -, -, -, h3, -, hf, gh, qh, hV, -, sz⟩ := HB2.out
      have f0 : w5.drew.cell? ⟨P, 0, none⟩ = some (.int .i64 ty) := HF.out.c0
      have f1 : w5.drew.cell? ⟨P, 1, none⟩ = some (.int .i64 th) := HF.out.c1
      have f2 : w5.drew.cell? ⟨P, 2, none⟩ = some (.int .i64 ri) := HF.out.c2
      have f3 : w5.drew.cell? ⟨P, 3, none⟩ = some (.int .i64 ba) := HF.out.c3
      have c3 : w5.drew.cell? ⟨g, 3, none⟩ = some (.slice (some ⟨sb, sp, none⟩) n ca) := HB2.out.par.c3
      have u4 : w5.drew.cell? ⟨sb, sp + i * 5 + 4, none⟩ = some (.int .i64 up) := u4
      have h3 : w5.drew.cell? ⟨h, 3, none⟩ = some v := HB2.out.h3
      have h3' : (w5.alloc (.cells #[.int .i64 ty, .int .i64 th, .int .i64 ri, .int .i64 ba, .int .i64 up] 86)).cell? ⟨h, 3, none⟩ = some v := (HB2.out.on (below_alloc w5 _)).h3
      have HU4 : Hid (w.cell? ⟨sb, sp + i * 5 + 4, none⟩ = some (.int .i64 up)) := Lib.hid ((HB2.out.par.old.cell (p := ⟨sb, _, none⟩) hsb3).symm.trans u4)
      have hPh : P ≠ h := by have := HPW.out; have := HB2.out.hV; omega
      have hb1 := below_alloc w5.drew (.cells #[.int .i64 ty, .int .i64 th, .int .i64 ri, .int .i64 ba, .int .i64 up] 86)
      have flt' : P < w5.drew.heap.size := HF.out.lt
      have glt' : g < w5.drew.heap.size := HB2.out.par.lt
      have slt' : sb < w5.drew.heap.size := Nat.lt_of_lt_of_le hsb3 HB2.out.par.old.size
      have hS1 := And.intro ((hb1.cell (p := ⟨P, 0, none⟩) flt').trans f0) (And.intro ((hb1.cell (p := ⟨P, 1, none⟩) flt').trans f1) (And.intro ((hb1.cell (p := ⟨P, 2, none⟩) flt').trans f2) (And.intro ((hb1.cell (p := ⟨P, 3, none⟩) flt').trans f3) (And.intro ((hb1.cell (p := ⟨g, 3, none⟩) glt').trans c3) ((hb1.cell (p := ⟨sb, sp + i * 5 + 4, none⟩) slt').trans u4)))))
      clear hO2 hv0 hnew hf
      refine wp_region_held_drew (S := (fun w' => w'.cell? ⟨P, 0, none⟩ = some (.int .i64 ty) ∧ w'.cell? ⟨P, 1, none⟩ = some (.int .i64 th) ∧ w'.cell? ⟨P, 2, none⟩ = some (.int .i64 ri) ∧ w'.cell? ⟨P, 3, none⟩ = some (.int .i64 ba) ∧ w'.cell? ⟨g, 3, none⟩ = some (.slice (some ⟨sb, sp, none⟩) n ca) ∧ w'.cell? ⟨sb, sp + i * 5 + 4, none⟩ = some (.int .i64 up))) (by kernel_rfl) ⟨f0, f1, f2, f3, c3, u4⟩ (fun hHeld => ?_)
      refine wpAnyH_take (i := 0) (v := ?_) rfl (by kernel_rfl) (by kernel_rfl) (by kernel_rfl) (fun _ _ _ h => h) (Or.inl ⟨by rfl, ?_⟩) (by assumption) ?_
      rotate_left
      · intro w hSw; go_split_ands; go_simp; try with_reducible rfl
      simp only [Act.put, List.setIfInBounds_toArray, List.set_cons_zero, List.set_cons_succ, List.getElem_toArray, List.getElem_cons_zero]
      refine wpAnyH_take (i := 2) (v := ?_) rfl (by kernel_rfl) (by kernel_rfl) (by kernel_rfl) (fun _ _ _ h => h) (Or.inl ⟨by rfl, ?_⟩) (by assumption) ?_
      rotate_left
      · intro w hSw; go_split_ands; go_simp; try with_reducible rfl
      simp only [Act.put, List.setIfInBounds_toArray, List.set_cons_zero, List.set_cons_succ, List.getElem_toArray, List.getElem_cons_zero, List.getElem_cons_succ]
      refine wpAnyH_take (i := 4) (v := ?_) rfl (by kernel_rfl) (by kernel_rfl) (by kernel_rfl) (fun _ _ _ h => h) (Or.inl ⟨by rfl, ?_⟩) (by assumption) ?_
      rotate_left
      · intro w hSw; go_split_ands; go_simp; try with_reducible rfl
      simp only [Act.put, List.setIfInBounds_toArray, List.set_cons_zero, List.set_cons_succ, List.getElem_toArray, List.getElem_cons_zero, List.getElem_cons_succ]
      refine wpAnyH_take (i := 6) (v := ?_) rfl (by kernel_rfl) (by kernel_rfl) (by kernel_rfl) (fun _ _ _ h => h) (Or.inl ⟨by rfl, ?_⟩) (by assumption) ?_
      rotate_left
      · intro w hSw; go_split_ands; go_simp; try with_reducible rfl
      simp only [Act.put, List.setIfInBounds_toArray, List.set_cons_zero, List.set_cons_succ, List.getElem_toArray, List.getElem_cons_zero, List.getElem_cons_succ]
      refine wpAnyH_take (i := 8) (v := ?_) rfl (by kernel_rfl) (by kernel_rfl) (by kernel_rfl) (fun _ _ _ h => h) (Or.inl ⟨by rfl, ?_⟩) (by assumption) ?_
      rotate_left
      · intro w hSw; go_split_ands; go_simp; try with_reducible rfl
      simp only [Act.put, List.setIfInBounds_toArray, List.set_cons_zero, List.set_cons_succ, List.getElem_toArray, List.getElem_cons_zero, List.getElem_cons_succ]
      refine wpAnyH_take (i := 11) (v := ?_) rfl (by kernel_rfl) (by kernel_rfl) (by kernel_rfl) (fun _ _ _ h => h) (Or.inl ⟨by rfl, ?_⟩) (by assumption) ?_
      rotate_left
      · intro w hSw; go_split_ands; go_simp; try with_reducible rfl
      simp only [Act.put, List.setIfInBounds_toArray, List.set_cons_zero, List.set_cons_succ, List.getElem_toArray, List.getElem_cons_zero, List.getElem_cons_succ]
      refine wpAnyH_take (i := 13) (v := ?_) rfl (by kernel_rfl) (by kernel_rfl) (by kernel_rfl) (fun _ _ _ h => h) (Or.inl ⟨by rfl, ?_⟩) (by assumption) ?_
      rotate_left
      · intro w hSw; go_split_ands; go_simp; try with_reducible rfl
      simp only [Act.put, List.setIfInBounds_toArray, List.set_cons_zero, List.set_cons_succ, List.getElem_toArray, List.getElem_cons_zero, List.getElem_cons_succ]
      refine wpAnyH_take (i := 3) (v := ?_) rfl (by kernel_rfl) (by kernel_rfl) (by kernel_rfl) (fun _ _ _ h => h) (Or.inl ⟨by rfl, ?_⟩) (by assumption) ?_
      rotate_left
      · intro w hSw; go_split_ands; go_simp; try with_reducible rfl
      simp only [Act.put, List.setIfInBounds_toArray, List.set_cons_zero, List.set_cons_succ, List.getElem_toArray, List.getElem_cons_zero, List.getElem_cons_succ]
      refine wpAnyH_take (i := 5) (v := ?_) rfl (by kernel_rfl) (by kernel_rfl) (by kernel_rfl) (fun _ _ _ h => h) (Or.inl ⟨by rfl, ?_⟩) (by assumption) ?_
      rotate_left
      · intro w hSw; go_split_ands; go_simp; try with_reducible rfl
      simp only [Act.put, List.setIfInBounds_toArray, List.set_cons_zero, List.set_cons_succ, List.getElem_toArray, List.getElem_cons_zero, List.getElem_cons_succ]
      refine wpAnyH_take (i := 7) (v := ?_) rfl (by kernel_rfl) (by kernel_rfl) (by kernel_rfl) (fun _ _ _ h => h) (Or.inl ⟨by rfl, ?_⟩) (by assumption) ?_
      rotate_left
      · intro w hSw; go_split_ands; go_simp; try with_reducible rfl
      simp only [Act.put, List.setIfInBounds_toArray, List.set_cons_zero, List.set_cons_succ, List.getElem_toArray, List.getElem_cons_zero, List.getElem_cons_succ]
      refine wpAnyH_take (i := 9) (v := ?_) rfl (by kernel_rfl) (by kernel_rfl) (by kernel_rfl) (fun _ _ _ h => h) (Or.inl ⟨by rfl, ?_⟩) (by assumption) ?_
      rotate_left
      · intro w hSw; go_split_ands; go_simp; try with_reducible rfl
      simp only [Act.put, List.setIfInBounds_toArray, List.set_cons_zero, List.set_cons_succ, List.getElem_toArray, List.getElem_cons_zero, List.getElem_cons_succ]
      refine wpAnyH_take (i := 12) (v := ?_) rfl (by kernel_rfl) (by kernel_rfl) (by kernel_rfl) (fun _ _ _ h => h) (Or.inl ⟨by rfl, ?_⟩) (by assumption) ?_
      rotate_left
      · intro w hSw; go_split_ands; go_simp; try with_reducible rfl
      simp only [Act.put, List.setIfInBounds_toArray, List.set_cons_zero, List.set_cons_succ, List.getElem_toArray, List.getElem_cons_zero, List.getElem_cons_succ]
      refine wpAnyH_take (i := 14) (v := ?_) rfl (by kernel_rfl) (by kernel_rfl) (by kernel_rfl) (fun _ _ _ h => h) (Or.inl ⟨by rfl, ?_⟩) (by assumption) ?_
      rotate_left
      · intro w hSw; go_split_ands; go_simp; try with_reducible rfl
      simp only [Act.put, List.setIfInBounds_toArray, List.set_cons_zero, List.set_cons_succ, List.getElem_toArray, List.getElem_cons_zero, List.getElem_cons_succ]
      refine wpAnyH_take (i := 15) (v := ?_) rfl (by kernel_rfl) (by kernel_rfl) (by kernel_rfl) (fun _ _ _ h => h) (Or.inl ⟨by rfl, ?_⟩) (by assumption) ?_
      rotate_left
      · intro w hSw; go_split_ands; go_simp; try with_reducible rfl
      simp only [Act.put, List.setIfInBounds_toArray, List.set_cons_zero, List.set_cons_succ, List.getElem_toArray, List.getElem_cons_zero, List.getElem_cons_succ]
      refine wpAnyH_take (i := 16) (v := ?_) rfl (by kernel_rfl) (by kernel_rfl) (by kernel_rfl) (fun _ _ _ h => h) (Or.inl ⟨by rfl, ?_⟩) (by assumption) ?_
      rotate_left
      · intro w hSw; go_split_ands; go_simp; try with_reducible rfl
      simp only [Act.put, List.setIfInBounds_toArray, List.set_cons_zero, List.set_cons_succ, List.getElem_toArray, List.getElem_cons_zero, List.getElem_cons_succ]
      refine wpAnyH_take (i := 10) (v := ?_) rfl (by kernel_rfl) (by kernel_rfl) (by kernel_rfl) (fun _ _ _ h => h) (Or.inl ⟨by rfl, ?_⟩) (by assumption) ?_
      rotate_left
      · intro w hSw; go_split_ands; go_simp; try with_reducible rfl
      simp only [Act.put, List.setIfInBounds_toArray, List.set_cons_zero, List.set_cons_succ, List.getElem_toArray, List.getElem_cons_zero, List.getElem_cons_succ]
      refine wpAnyH_take (i := 17) (v := ?_) rfl (by kernel_rfl) (by kernel_rfl) (by kernel_rfl) (fun _ _ _ h => h) (Or.inl ⟨by rfl, ?_⟩) (by assumption) ?_
      rotate_left
      · intro w hSw; go_split_ands; go_simp; try with_reducible rfl
      simp only [Act.put, List.setIfInBounds_toArray, List.set_cons_zero, List.set_cons_succ, List.getElem_toArray, List.getElem_cons_zero, List.getElem_cons_succ]
      refine wpAnyH_ready (rs := [1, 18]) (by kernel_rfl) (by simp) ?_
      refine AllReadyH.cons rfl (fun K hK => ?_) (AllReadyH.cons rfl (fun K hK => ?_) AllReadyH.nil)
      · go_simp
        refine hK.out _ _ ⟨f0, f1, f2, f3, c3, u4⟩ (fun hHeld => ?_)
        clear hK K
        try simp only [Act.put, List.setIfInBounds_toArray, List.set_cons_zero, List.set_cons_succ, List.getElem_toArray, List.getElem_cons_zero, List.getElem_cons_succ]
        refine wpAnyH_ready (rs := [18]) (by kernel_rfl) (by simp) ?_
        refine AllReadyH.cons rfl (fun K hK => ?_) AllReadyH.nil
        go_simp
        refine hK.out _ _ hS1 (fun hHeld => ?_)
        clear hK K
        try simp only [Act.put, List.setIfInBounds_toArray, List.set_cons_zero, List.set_cons_succ, List.getElem_toArray, List.getElem_cons_zero, List.getElem_cons_succ]
        refine wpAnyH_ready (rs := [19]) (by kernel_rfl) (by simp) ?_
        refine AllReadyH.cons rfl (fun K hK => ?_) AllReadyH.nil
        refine step_append_lies _ rfl _ _ 59 rfl w3.heap.size 86 i0 Sl.zero.val 5 40 Try.underlying59 hii hz0 hz1 hz2 rfl (by decide) v i (sflat (s.sl.take i)) rfl HO6.out ⟨w5.heap.size, 0, none⟩ 1 1 [.int .i64 ty, .int .i64 th, .int .i64 ri, .int .i64 ba, .int .i64 up] rfl rfl HNEW.out HONE.out (by decide) HC3.out HC4.out HSZ.out _ rfl ?_
        intro g' gcap w7 hown hgrow _ _
        have HB7 := Lib.hid (HB6.out.grown hgrow HV0.out)
        have k3 := HB7.out.h3
        have kf := HB7.out.hf 3
        have hP7 : ∀ j, w7.cell? ⟨P, j, none⟩ = (w5.drew.alloc (.cells #[.int .i64 ty, .int .i64 th, .int .i64 ri, .int .i64 ba, .int .i64 up] 86)).cell? ⟨P, j, none⟩ := fun j => World.cell?_of_block (a := ⟨P, j, none⟩) (hgrow.block P (Nat.lt_of_lt_of_le flt' hb1.size) (fun e => HVP.out e.symm))
        have hS7 := And.intro ((hP7 0).trans hS1.1) (And.intro ((hP7 1).trans hS1.2.1) (And.intro ((hP7 2).trans hS1.2.2.1) (And.intro ((hP7 3).trans hS1.2.2.2.1) (And.intro HB7.out.par.c3 ((HB7.out.par.old.cell (p := ⟨sb, sp + i * 5 + 4, none⟩) hsb3).trans HU4.out)))))
        have HB8 := Lib.hid (HB7.out.set 3 (.slice (some ⟨g', 0, none⟩) (i + 1) gcap) (.inl rfl))
        have hP8 : ∀ j, (w7.setCell ⟨h, 3, none⟩ (.slice (some ⟨g', 0, none⟩) (i + 1) gcap)).cell? ⟨P, j, none⟩ = w7.cell? ⟨P, j, none⟩ := fun j => World.cell?_setCell_other _ _ _ _ (fun q => by injection q with q; exact hPh q.symm)
        have hS8 := And.intro ((hP8 0).trans hS7.1) (And.intro ((hP8 1).trans hS7.2.1) (And.intro ((hP8 2).trans hS7.2.2.1) (And.intro ((hP8 3).trans hS7.2.2.2.1) (And.intro HB8.out.par.c3 ((HB8.out.par.old.cell (p := ⟨sb, sp + i * 5 + 4, none⟩) hsb3).trans HU4.out)))))
        have HO8 : Hid ((w7.setCell ⟨h, 3, none⟩ (.slice (some ⟨g', 0, none⟩) (i + 1) gcap)).ownsRow w3.heap.size 86 5 (.slice (some ⟨g', 0, none⟩) (i + 1) gcap) (i + 1) (sflat (s.sl.take (i + 1)))) := Lib.hid (by rw [HU.out]; exact hown.kept (row := some h) ⟨rfl, rfl, rfl, by simp [World.setCell], fun k _ e => Below.heap_setCell _ _ _ _ (fun q => e (by rw [q]))⟩ (.inr (fun e => by have := (hown.lt _ rfl).1; injection e with e; omega)))
        refine hK.out _ _ hS7 (fun hHeld => ?_)
        clear hK K
        try simp only [Act.put, List.setIfInBounds_toArray, List.set_cons_zero, List.set_cons_succ, List.getElem_toArray, List.getElem_cons_zero, List.getElem_cons_succ]
        refine wpAnyH_take (i := 20) (v := ?_) rfl (by kernel_rfl) (by kernel_rfl) (by kernel_rfl) (fun _ _ _ h => h) (Or.inl ⟨by rfl, ?_⟩) (by assumption) ?_
        rotate_left
        · intro w hSw; go_split_ands; go_simp; try with_reducible rfl
        simp only [Act.put, List.setIfInBounds_toArray, List.set_cons_zero, List.set_cons_succ, List.getElem_toArray, List.getElem_cons_zero, List.getElem_cons_succ]
        refine wpAnyH_ready (rs := [21]) (by kernel_rfl) (by simp) ?_
        refine AllReadyH.cons rfl (fun K hK => ?_) AllReadyH.nil
        go_simp
        refine hK.out _ _ hS8 (fun hHeld => ?_)
        clear hK K
        try simp only [Act.put, List.setIfInBounds_toArray, List.set_cons_zero, List.set_cons_succ, List.getElem_toArray, List.getElem_cons_zero, List.getElem_cons_succ]
        refine wpAnyH_done (by kernel_rfl) ?_ _
        generalize World.setCell _ _ _ = w8 at HB8 HO8 ⊢
        clear hS1 hS7 hS8 hP7 hP8 hown hgrow k3 kf f0 f1 f2 f3 c3 u4 h3 h3' hii hz0 hz1 hz2
        go_wp2
        go_roundg (n - (i + 1))
        case measure => have := HI.out; have := HLT.out; omega
        case rel => exact ⟨i + 1, _, by have := HI.out; have := HLT.out; omega, by go_num, HB8.out, HO8.out⟩
      · go_simp
        refine hK.out _ _ hS1 (fun hHeld => ?_)
        clear hK K
        try simp only [Act.put, List.setIfInBounds_toArray, List.set_cons_zero, List.set_cons_succ, List.getElem_toArray, List.getElem_cons_zero, List.getElem_cons_succ]
        refine wpAnyH_ready (rs := [1]) (by kernel_rfl) (by simp) ?_
        refine AllReadyH.cons rfl (fun K hK => ?_) AllReadyH.nil
        go_simp
        refine hK.out _ _ hS1 (fun hHeld => ?_)
        clear hK K
        try simp only [Act.put, List.setIfInBounds_toArray, List.set_cons_zero, List.set_cons_succ, List.getElem_toArray, List.getElem_cons_zero, List.getElem_cons_succ]
        refine wpAnyH_ready (rs := [19]) (by kernel_rfl) (by simp) ?_
        refine AllReadyH.cons rfl (fun K hK => ?_) AllReadyH.nil
        refine step_append_lies _ rfl _ _ 59 rfl w3.heap.size 86 i0 Sl.zero.val 5 40 Try.underlying59 hii hz0 hz1 hz2 rfl (by decide) v i (sflat (s.sl.take i)) rfl HO6.out ⟨w5.heap.size, 0, none⟩ 1 1 [.int .i64 ty, .int .i64 th, .int .i64 ri, .int .i64 ba, .int .i64 up] rfl rfl HNEW.out HONE.out (by decide) HC3.out HC4.out HSZ.out _ rfl ?_
        intro g' gcap w7 hown hgrow _ _
        have HB7 := Lib.hid (HB6.out.grown hgrow HV0.out)
        have k3 := HB7.out.h3
        have kf := HB7.out.hf 3
        have hP7 : ∀ j, w7.cell? ⟨P, j, none⟩ = (w5.drew.alloc (.cells #[.int .i64 ty, .int .i64 th, .int .i64 ri, .int .i64 ba, .int .i64 up] 86)).cell? ⟨P, j, none⟩ := fun j => World.cell?_of_block (a := ⟨P, j, none⟩) (hgrow.block P (Nat.lt_of_lt_of_le flt' hb1.size) (fun e => HVP.out e.symm))
        have hS7 := And.intro ((hP7 0).trans hS1.1) (And.intro ((hP7 1).trans hS1.2.1) (And.intro ((hP7 2).trans hS1.2.2.1) (And.intro ((hP7 3).trans hS1.2.2.2.1) (And.intro HB7.out.par.c3 ((HB7.out.par.old.cell (p := ⟨sb, sp + i * 5 + 4, none⟩) hsb3).trans HU4.out)))))
        have HB8 := Lib.hid (HB7.out.set 3 (.slice (some ⟨g', 0, none⟩) (i + 1) gcap) (.inl rfl))
        have hP8 : ∀ j, (w7.setCell ⟨h, 3, none⟩ (.slice (some ⟨g', 0, none⟩) (i + 1) gcap)).cell? ⟨P, j, none⟩ = w7.cell? ⟨P, j, none⟩ := fun j => World.cell?_setCell_other _ _ _ _ (fun q => by injection q with q; exact hPh q.symm)
        have hS8 := And.intro ((hP8 0).trans hS7.1) (And.intro ((hP8 1).trans hS7.2.1) (And.intro ((hP8 2).trans hS7.2.2.1) (And.intro ((hP8 3).trans hS7.2.2.2.1) (And.intro HB8.out.par.c3 ((HB8.out.par.old.cell (p := ⟨sb, sp + i * 5 + 4, none⟩) hsb3).trans HU4.out)))))
        have HO8 : Hid ((w7.setCell ⟨h, 3, none⟩ (.slice (some ⟨g', 0, none⟩) (i + 1) gcap)).ownsRow w3.heap.size 86 5 (.slice (some ⟨g', 0, none⟩) (i + 1) gcap) (i + 1) (sflat (s.sl.take (i + 1)))) := Lib.hid (by rw [HU.out]; exact hown.kept (row := some h) ⟨rfl, rfl, rfl, by simp [World.setCell], fun k _ e => Below.heap_setCell _ _ _ _ (fun q => e (by rw [q]))⟩ (.inr (fun e => by have := (hown.lt _ rfl).1; injection e with e; omega)))
        refine hK.out _ _ hS7 (fun hHeld => ?_)
        clear hK K
        try simp only [Act.put, List.setIfInBounds_toArray, List.set_cons_zero, List.set_cons_succ, List.getElem_toArray, List.getElem_cons_zero, List.getElem_cons_succ]
        refine wpAnyH_take (i := 20) (v := ?_) rfl (by kernel_rfl) (by kernel_rfl) (by kernel_rfl) (fun _ _ _ h => h) (Or.inl ⟨by rfl, ?_⟩) (by assumption) ?_
        rotate_left
        · intro w hSw; go_split_ands; go_simp; try with_reducible rfl
        simp only [Act.put, List.setIfInBounds_toArray, List.set_cons_zero, List.set_cons_succ, List.getElem_toArray, List.getElem_cons_zero, List.getElem_cons_succ]
        refine wpAnyH_ready (rs := [21]) (by kernel_rfl) (by simp) ?_
        refine AllReadyH.cons rfl (fun K hK => ?_) AllReadyH.nil
        go_simp
        refine hK.out _ _ hS8 (fun hHeld => ?_)
        clear hK K
        try simp only [Act.put, List.setIfInBounds_toArray, List.set_cons_zero, List.set_cons_succ, List.getElem_toArray, List.getElem_cons_zero, List.getElem_cons_succ]
        refine wpAnyH_done (by kernel_rfl) ?_ _
        generalize World.setCell _ _ _ = w8 at HB8 HO8 ⊢
        clear hS1 hS7 hS8 hP7 hP8 hown hgrow k3 kf f0 f1 f2 f3 c3 u4 h3 h3' hii hz0 hz1 hz2
        go_wp2
        go_roundg (n - (i + 1))
        case measure => have := HI.out; have := HLT.out; omega
        case rel => exact ⟨i + 1, _, by have := HI.out; have := HLT.out; omega, by go_num, HB8.out, HO8.out⟩
    · have hlt2 : ¬ (i : Int) < (n : Int) := by omega
      have hin : i = n := by have := HI.out; omega
      subst hin
      have hHSL : ∃ A' ca', v = .slice A' i ca' ∧ ∀ w', (∀ k, w3.heap.size ≤ k → k < wr.heap.size → w'.heap[k]? = wr.heap[k]?) → wr.heap.size ≤ w'.heap.size → SlotsAt w' w'.heap.size A' s.sl := by
        have ho := HO.out
        rw [show s.sl.take i = s.sl by rw [HN.out, List.take_length]] at ho
        rcases ho.2 with ⟨rfl, h0⟩ | ⟨g0, cap, cur, rfl, hb0, hg0, _⟩
        · exact ⟨none, 0, by rw [h0], fun w' _ _ h1 => absurd h1 (by rw [← HN.out]; omega)⟩
        · have hlt0 : g0 < wr.heap.size := (Array.getElem?_eq_some_iff.1 hg0).1
          refine ⟨_, _, rfl, fun w' hst hsz h1 => ⟨g0, 0, rfl, by omega, fun j hj => SlC.of_flat (fun k u hk => ?_) hj⟩⟩
          have hk2 : k < i * 5 := by have := (List.getElem?_eq_some_iff.1 hk).1; rw [sflat_len, ← HN.out] at this; exact this
          rw [World.cell?_of_block (w := wr) (a := ⟨g0, k, none⟩) (hst g0 hb0 hlt0), ho.cellAt k hk2]
          exact hk
      obtain ⟨A', ca', rfl, hSL⟩ := hHSL
      have HSL := Lib.hid hSL
      have HBV : Hid (Ow w wr wr g q h a b c A i ca C m cc (.slice A' i ca') (.slice none 0 0)) := Lib.hid ⟨HB.out.par, HB.out.q0, HB.out.q1, HB.out.q2, HB.out.q3, HB.out.q4, HB.out.qf, HB.out.h0, HB.out.h1, HB.out.h2, HB.out.h3, HB.out.h4, HB.out.hf, HB.out.gh, HB.out.qh, Nat.lt_of_lt_of_le HB.out.hV HB.out.size, fun _ _ _ => rfl, Nat.le_refl _⟩
      have HQW : Hid (w.heap.size ≤ q) := Lib.hid HQ0.out
      have HH3 : Hid (h < w3.heap.size) := Lib.hid HB.out.hV
      clear hSL HB HO hlt HI
      go_wp2_with fail
      obtain ⟨V, hV⟩ : ∃ V, V = wr := ⟨_, rfl⟩
      subst hV
      clear c3 old lt
      go_loopg [6] m (fun f p wr => OwR2 w V g q h a b c A i ca C m cc (.slice A' i ca') s.th f p wr)
      case atStart => exact ⟨0, _, by omega, rfl, HBV.out, World.ownsRow_nil _ _ _ _⟩
      case round =>
        obtain ⟨n, hn⟩ : ∃ n, n = i := ⟨_, rfl⟩
        subst hn
        obtain ⟨i, v, hk, rfl, hb, ho⟩ := hrel
        have HI := Lib.hid hk
        have HB := Lib.hid hb
        have HO := Lib.hid ho
        obtain ⟨⟨-, -, -, -, c4, old, -, lt⟩, q0, q1, q2, q3, q4, qf, h0, h1, h2, h3, h4, hf, -, -, -, -, -⟩ := hb
        clear hk ho
        by_cases hlt : i < m
        · have HLT := Lib.hid hlt
          have hlt2 : (i : Int) < (m : Int) := by omega
          clear q0 q1 q2 q3 q4 qf h0 h1 h2 h3 hf
          obtain ⟨tb, tp, rfl, htb, hc⟩ := HS.out.th (by rw [← HM.out]; omega)
          have hT : ThC w tb (tp + i * 13) (thAt s.th i) := hc i (by rw [← HM.out]; exact hlt)
          have HU := Lib.hid (tflat_succ (l := s.th) (i := i) (by rw [← HM.out]; exact hlt))
          generalize thAt s.th i = y at hT HU
          obtain ⟨ty, bits, base, size, used, frm, badge, full, word, d0, d1, d2, d3⟩ := y
          obtain ⟨t0, t1, t2, t3, t4, t5, t6, t7, t8, t9, t10, t11, t12⟩ := hT
          simp only [thist] at t0 t1 t2 t3 t4 t5 t6 t7 t8 t9 t10 t11 t12 HU
          have HST : Hid (∀ {v' u' : Value} {w' : World}, Ow w V w' g q h a b c A n ca (some ⟨tb, tp, none⟩) m cc v' u' → w'.cell? ⟨tb, tp + i * 13, none⟩ = some (.int .i64 ty) ∧ w'.cell? ⟨tb, tp + i * 13 + 1, none⟩ = some (.int .i64 bits) ∧ w'.cell? ⟨tb, tp + i * 13 + 2, none⟩ = some (.int .i64 base) ∧ w'.cell? ⟨tb, tp + i * 13 + 3, none⟩ = some (.int .i64 size) ∧ w'.cell? ⟨tb, tp + i * 13 + 4, none⟩ = some (.int .i64 used) ∧ w'.cell? ⟨tb, tp + i * 13 + 5, none⟩ = some (.int .i64 frm) ∧ w'.cell? ⟨tb, tp + i * 13 + 6, none⟩ = some (.int .i64 badge) ∧ w'.cell? ⟨tb, tp + i * 13 + 7, none⟩ = some (.bool full) ∧ w'.cell? ⟨tb, tp + i * 13 + 8, none⟩ = some (.int .u64 (word : Int)) ∧ w'.cell? ⟨tb, tp + i * 13 + 9, none⟩ = some (.int .u64 (d0 : Int)) ∧ w'.cell? ⟨tb, tp + i * 13 + 10, none⟩ = some (.int .u64 (d1 : Int)) ∧ w'.cell? ⟨tb, tp + i * 13 + 11, none⟩ = some (.int .u64 (d2 : Int)) ∧ w'.cell? ⟨tb, tp + i * 13 + 12, none⟩ = some (.int .u64 (d3 : Int)) ∧ w'.cell? ⟨g, 4, none⟩ = some (.slice (some ⟨tb, tp, none⟩) m cc)) := Lib.hid fun k => ⟨(k.par.old.cell (p := ⟨tb, tp + i * 13, none⟩) htb).trans t0, (k.par.old.cell (p := ⟨tb, tp + i * 13 + 1, none⟩) htb).trans t1, (k.par.old.cell (p := ⟨tb, tp + i * 13 + 2, none⟩) htb).trans t2, (k.par.old.cell (p := ⟨tb, tp + i * 13 + 3, none⟩) htb).trans t3, (k.par.old.cell (p := ⟨tb, tp + i * 13 + 4, none⟩) htb).trans t4, (k.par.old.cell (p := ⟨tb, tp + i * 13 + 5, none⟩) htb).trans t5, (k.par.old.cell (p := ⟨tb, tp + i * 13 + 6, none⟩) htb).trans t6, (k.par.old.cell (p := ⟨tb, tp + i * 13 + 7, none⟩) htb).trans t7, (k.par.old.cell (p := ⟨tb, tp + i * 13 + 8, none⟩) htb).trans t8, (k.par.old.cell (p := ⟨tb, tp + i * 13 + 9, none⟩) htb).trans t9, (k.par.old.cell (p := ⟨tb, tp + i * 13 + 10, none⟩) htb).trans t10, (k.par.old.cell (p := ⟨tb, tp + i * 13 + 11, none⟩) htb).trans t11, (k.par.old.cell (p := ⟨tb, tp + i * 13 + 12, none⟩) htb).trans t12, k.par.c4⟩
          have HV0 : Hid (∀ k, v.ownBlock = some k → V.heap.size ≤ k) := Lib.hid fun k e => (HO.out.lt k e).1
          obtain ⟨i0, hii, hz0, hz1, hz2⟩ := infoth_parts
          have HONE : Hid (∀ u ∈ [Value.int .i64 ty, .int .i64 bits, .int .i64 base, .int .i64 size, .int .i64 used, .int .i64 frm, .int .i64 badge, .bool full, .int .u64 (word : Int), .int .u64 (d0 : Int), .int .u64 (d1 : Int), .int .u64 (d2 : Int), .int .u64 (d3 : Int)], u.oneCell' = true) := Lib.hid (by intro u hu; simp at hu; rcases hu with rfl | rfl | rfl | rfl | rfl | rfl | rfl | rfl | rfl | rfl | rfl | rfl | rfl <;> rfl)
          have HC3 : Hid (i + 1 ≤ maxLen) := Lib.hid (by unfold maxLen; omega)
          have HC4 : Hid ((i + 1) * 104 ≤ 140737488355328) := Lib.hid (by omega)
          have HBX : Hid (Ow w V wr.drew g q h a b c A n ca (some ⟨tb, tp, none⟩) m cc (.slice A' n ca') v) := Lib.hid (HB.out.on (below_self wr).drew)
          have HOX : Hid (wr.drew.ownsRow V.heap.size 87 13 v i (tflat (s.th.take i))) := Lib.hid HO.out
          clear hc hlt
          go_wp2_with fail
          have hY := HST.out HBX.out
          obtain ⟨y0, y1, y2, y3, y4, y5, y6, y7, y8, y9, y10, y11, y12, c4⟩ := hY
          have h4 : wr.drew.cell? ⟨h, 4, none⟩ = some v := HB.out.h4
          refine wp_region_held_drew (S := (fun w' => w'.cell? ⟨tb, tp + i * 13, none⟩ = some (.int .i64 ty) ∧ w'.cell? ⟨tb, tp + i * 13 + 1, none⟩ = some (.int .i64 bits) ∧ w'.cell? ⟨tb, tp + i * 13 + 2, none⟩ = some (.int .i64 base) ∧ w'.cell? ⟨tb, tp + i * 13 + 3, none⟩ = some (.int .i64 size) ∧ w'.cell? ⟨tb, tp + i * 13 + 4, none⟩ = some (.int .i64 used) ∧ w'.cell? ⟨tb, tp + i * 13 + 5, none⟩ = some (.int .i64 frm) ∧ w'.cell? ⟨tb, tp + i * 13 + 6, none⟩ = some (.int .i64 badge) ∧ w'.cell? ⟨tb, tp + i * 13 + 7, none⟩ = some (.bool full) ∧ w'.cell? ⟨tb, tp + i * 13 + 8, none⟩ = some (.int .u64 (word : Int)) ∧ w'.cell? ⟨tb, tp + i * 13 + 9, none⟩ = some (.int .u64 (d0 : Int)) ∧ w'.cell? ⟨tb, tp + i * 13 + 10, none⟩ = some (.int .u64 (d1 : Int)) ∧ w'.cell? ⟨tb, tp + i * 13 + 11, none⟩ = some (.int .u64 (d2 : Int)) ∧ w'.cell? ⟨tb, tp + i * 13 + 12, none⟩ = some (.int .u64 (d3 : Int)) ∧ w'.cell? ⟨g, 4, none⟩ = some (.slice (some ⟨tb, tp, none⟩) m cc))) (by kernel_rfl) ⟨y0, y1, y2, y3, y4, y5, y6, y7, y8, y9, y10, y11, y12, c4⟩ (fun hHeld => ?_)
          refine wpAnyH_take (i := 0) (v := ?_) rfl (by kernel_rfl) (by kernel_rfl) (by kernel_rfl) (fun _ _ _ h => h) (Or.inl ⟨by rfl, ?_⟩) (by assumption) ?_
          rotate_left
          · intro w hSw; go_split_ands; go_simp; try with_reducible rfl
          simp only [Act.put, List.setIfInBounds_toArray, List.set_cons_zero, List.set_cons_succ, List.getElem_toArray, List.getElem_cons_zero]
          refine wpAnyH_take (i := 2) (v := ?_) rfl (by kernel_rfl) (by kernel_rfl) (by kernel_rfl) (fun _ _ _ h => h) (Or.inl ⟨by rfl, ?_⟩) (by assumption) ?_
          rotate_left
          · intro w hSw; go_split_ands; go_simp; try with_reducible rfl
          simp only [Act.put, List.setIfInBounds_toArray, List.set_cons_zero, List.set_cons_succ, List.getElem_toArray, List.getElem_cons_zero, List.getElem_cons_succ]
          refine wpAnyH_take (i := 4) (v := ?_) rfl (by kernel_rfl) (by kernel_rfl) (by kernel_rfl) (fun _ _ _ h => h) (Or.inl ⟨by rfl, ?_⟩) (by assumption) ?_
          rotate_left
          · intro w hSw; go_split_ands; go_simp; try with_reducible rfl
          simp only [Act.put, List.setIfInBounds_toArray, List.set_cons_zero, List.set_cons_succ, List.getElem_toArray, List.getElem_cons_zero, List.getElem_cons_succ]
          refine wpAnyH_take (i := 3) (v := ?_) rfl (by kernel_rfl) (by kernel_rfl) (by kernel_rfl) (fun _ _ _ h => h) (Or.inl ⟨by rfl, ?_⟩) (by assumption) ?_
          rotate_left
          · intro w hSw; go_split_ands; go_simp; try with_reducible rfl
          simp only [Act.put, List.setIfInBounds_toArray, List.set_cons_zero, List.set_cons_succ, List.getElem_toArray, List.getElem_cons_zero, List.getElem_cons_succ]
          refine wpAnyH_take (i := 5) (v := ?_) rfl (by kernel_rfl) (by kernel_rfl) (by kernel_rfl) (fun _ _ _ h => h) (Or.inl ⟨by rfl, ?_⟩) (by assumption) ?_
          rotate_left
          · intro w hSw; go_split_ands; go_simp; try with_reducible rfl
          simp only [Act.put, List.setIfInBounds_toArray, List.set_cons_zero, List.set_cons_succ, List.getElem_toArray, List.getElem_cons_zero, List.getElem_cons_succ]
          refine wpAnyH_take (i := 6) (v := ?_) rfl (by kernel_rfl) (by kernel_rfl) (by kernel_rfl) (fun _ _ _ h => h) (Or.inl ⟨by rfl, ?_⟩) (by assumption) ?_
          rotate_left
          · intro w hSw; go_split_ands; go_simp; try with_reducible rfl
          simp only [Act.put, List.setIfInBounds_toArray, List.set_cons_zero, List.set_cons_succ, List.getElem_toArray, List.getElem_cons_zero, List.getElem_cons_succ]
          refine wpAnyH_ready (rs := [1, 7]) (by kernel_rfl) (by simp) ?_
          refine AllReadyH.cons rfl (fun K hK => ?_) (AllReadyH.cons rfl (fun K hK => ?_) AllReadyH.nil)
          · go_simp
            refine hK.out _ _ ⟨y0, y1, y2, y3, y4, y5, y6, y7, y8, y9, y10, y11, y12, c4⟩ (fun hHeld => ?_)
            clear hK K
            try simp only [Act.put, List.setIfInBounds_toArray, List.set_cons_zero, List.set_cons_succ, List.getElem_toArray, List.getElem_cons_zero, List.getElem_cons_succ]
            refine wpAnyH_ready (rs := [7]) (by kernel_rfl) (by simp) ?_
            refine AllReadyH.cons rfl (fun K hK => ?_) AllReadyH.nil
            go_simp
            refine (lthingof_any ⟨ty, bits, base, size, used, frm, badge, full, word, d0, d1, d2, d3⟩ _).mono ?_
            rintro e w6 ⟨rfl, hb⟩
            have HB6 := Lib.hid (HBX.out.on hb)
            have HO6 := Lib.hid (ownsRow_on HOX.out hb)
            have h4' := HB6.out.h4
            have hS6 := HST.out HB6.out
            unfold Tng.val
            refine hK.out _ _ hS6 (fun hHeld => ?_)
            clear hK K
            refine wpAnyH_ready (rs := [8]) (by kernel_rfl) (by simp) ?_
            refine AllReadyH.cons rfl (fun K hK => ?_) AllReadyH.nil
            go_simp
            refine hK.out _ _ (HST.out (HB6.out.on (below_alloc w6 (.cells #[.int .i64 ty, .int .i64 bits, .int .i64 base, .int .i64 size, .int .i64 used, .int .i64 frm, .int .i64 badge, .bool full, .int .u64 (word : Int), .int .u64 (d0 : Int), .int .u64 (d1 : Int), .int .u64 (d2 : Int), .int .u64 (d3 : Int)] 87)))) (fun hHeld => ?_)
            clear hK K
            try simp only [Act.put, List.setIfInBounds_toArray, List.set_cons_zero, List.set_cons_succ, List.getElem_toArray, List.getElem_cons_zero, List.getElem_cons_succ]
            have HB9 := Lib.hid (HB6.out.on (below_alloc w6 (.cells #[.int .i64 ty, .int .i64 bits, .int .i64 base, .int .i64 size, .int .i64 used, .int .i64 frm, .int .i64 badge, .bool full, .int .u64 (word : Int), .int .u64 (d0 : Int), .int .u64 (d1 : Int), .int .u64 (d2 : Int), .int .u64 (d3 : Int)] 87)))
            have HO9 := Lib.hid (HO6.out.alloc (.cells #[.int .i64 ty, .int .i64 bits, .int .i64 base, .int .i64 size, .int .i64 used, .int .i64 frm, .int .i64 badge, .bool full, .int .u64 (word : Int), .int .u64 (d0 : Int), .int .u64 (d1 : Int), .int .u64 (d2 : Int), .int .u64 (d3 : Int)] 87))
            have hnew : ∀ j u, [Value.int .i64 ty, .int .i64 bits, .int .i64 base, .int .i64 size, .int .i64 used, .int .i64 frm, .int .i64 badge, .bool full, .int .u64 (word : Int), .int .u64 (d0 : Int), .int .u64 (d1 : Int), .int .u64 (d2 : Int), .int .u64 (d3 : Int)][j]? = some u → (w6.alloc (.cells #[.int .i64 ty, .int .i64 bits, .int .i64 base, .int .i64 size, .int .i64 used, .int .i64 frm, .int .i64 badge, .bool full, .int .u64 (word : Int), .int .u64 (d0 : Int), .int .u64 (d1 : Int), .int .u64 (d2 : Int), .int .u64 (d3 : Int)] 87)).cell? ((⟨w6.heap.size, 0, none⟩ : Addr).add j) = some u := fun j u hu => by
              rw [Addr.add_mid, Nat.zero_add]
              have := cell_of_row _ _ j _ _ _ (heap_alloc_new w6 (.cells #[.int .i64 ty, .int .i64 bits, .int .i64 base, .int .i64 size, .int .i64 used, .int .i64 frm, .int .i64 badge, .bool full, .int .u64 (word : Int), .int .u64 (d0 : Int), .int .u64 (d1 : Int), .int .u64 (d2 : Int), .int .u64 (d3 : Int)] 87))
              refine Eq.trans this ?_
              rw [← hu]; simp
            have HNEW := Lib.hid hnew
            clear hnew
            refine wpAnyH_ready (rs := [9]) (by kernel_rfl) (by simp) ?_
            refine AllReadyH.cons rfl (fun K hK => ?_) AllReadyH.nil
            refine step_append_lies _ rfl _ _ 60 rfl V.heap.size 87 i0 Tng.zero.val 13 104 Try.underlying60 hii hz0 hz1 hz2 rfl (by decide) v i (tflat (s.th.take i)) rfl HO9.out ⟨w6.heap.size, 0, none⟩ 1 1 [.int .i64 ty, .int .i64 bits, .int .i64 base, .int .i64 size, .int .i64 used, .int .i64 frm, .int .i64 badge, .bool full, .int .u64 (word : Int), .int .u64 (d0 : Int), .int .u64 (d1 : Int), .int .u64 (d2 : Int), .int .u64 (d3 : Int)] rfl rfl HNEW.out HONE.out (by decide) HC3.out HC4.out HB9.out.size _ rfl ?_
            intro g' gcap w7 hown hgrow _ _
            have HB7 := Lib.hid (HB9.out.grown hgrow HV0.out)
            have k4 := HB7.out.h4
            have kf := HB7.out.hf 4
            have HB8 := Lib.hid (HB7.out.set 4 (.slice (some ⟨g', 0, none⟩) (i + 1) gcap) (.inr rfl))
            have HO8 : Hid ((w7.setCell ⟨h, 4, none⟩ (.slice (some ⟨g', 0, none⟩) (i + 1) gcap)).ownsRow V.heap.size 87 13 (.slice (some ⟨g', 0, none⟩) (i + 1) gcap) (i + 1) (tflat (s.th.take (i + 1)))) := Lib.hid (by rw [HU.out]; exact hown.kept (row := some h) ⟨rfl, rfl, rfl, by simp [World.setCell], fun k _ e => Below.heap_setCell _ _ _ _ (fun q => e (by rw [q]))⟩ (.inr (fun e => by have := (hown.lt _ rfl).1; have := HB7.out.hV; injection e with e; omega)))
            refine hK.out _ _ (HST.out HB7.out) (fun hHeld => ?_)
            clear hK K
            try simp only [Act.put, List.setIfInBounds_toArray, List.set_cons_zero, List.set_cons_succ, List.getElem_toArray, List.getElem_cons_zero, List.getElem_cons_succ]
            refine wpAnyH_take (i := 10) (v := ?_) rfl (by kernel_rfl) (by kernel_rfl) (by kernel_rfl) (fun _ _ _ h => h) (Or.inl ⟨by rfl, ?_⟩) (by assumption) ?_
            rotate_left
            · intro w hSw; go_split_ands; go_simp; try with_reducible rfl
            simp only [Act.put, List.setIfInBounds_toArray, List.set_cons_zero, List.set_cons_succ, List.getElem_toArray, List.getElem_cons_zero, List.getElem_cons_succ]
            refine wpAnyH_ready (rs := [11]) (by kernel_rfl) (by simp) ?_
            refine AllReadyH.cons rfl (fun K hK => ?_) AllReadyH.nil
            go_simp
            refine hK.out _ _ (HST.out HB8.out) (fun hHeld => ?_)
            clear hK K
            try simp only [Act.put, List.setIfInBounds_toArray, List.set_cons_zero, List.set_cons_succ, List.getElem_toArray, List.getElem_cons_zero, List.getElem_cons_succ]
            refine wpAnyH_done (by kernel_rfl) ?_ _
            generalize World.setCell _ _ _ = w8 at HB8 HO8 ⊢
            clear hown hgrow k4 kf h4 hii hz0 hz1 hz2 y0 y1 y2 y3 y4 y5 y6 y7 y8 y9 y10 y11 y12 c4
            go_wp2
            go_roundg (m - (i + 1))
            case measure => have := HI.out; have := HLT.out; omega
            case rel => exact ⟨i + 1, _, by have := HI.out; have := HLT.out; omega, by go_num, HB8.out, HO8.out⟩
          · go_simp
            refine (lthingof_any ⟨ty, bits, base, size, used, frm, badge, full, word, d0, d1, d2, d3⟩ _).mono ?_
            rintro e w6 ⟨rfl, hb⟩
            have HB6 := Lib.hid (HBX.out.on hb)
            have HO6 := Lib.hid (ownsRow_on HOX.out hb)
            have h4' := HB6.out.h4
            have hS6 := HST.out HB6.out
            unfold Tng.val
            refine hK.out _ _ hS6 (fun hHeld => ?_)
            clear hK K
            refine wpAnyH_ready (rs := [1, 8]) (by kernel_rfl) (by simp) ?_
            refine AllReadyH.cons rfl (fun K hK => ?_) (AllReadyH.cons rfl (fun K hK => ?_) AllReadyH.nil)
            · go_simp
              refine hK.out _ _ hS6 (fun hHeld => ?_)
              clear hK K
              try simp only [Act.put, List.setIfInBounds_toArray, List.set_cons_zero, List.set_cons_succ, List.getElem_toArray, List.getElem_cons_zero, List.getElem_cons_succ]
              refine wpAnyH_ready (rs := [8]) (by kernel_rfl) (by simp) ?_
              refine AllReadyH.cons rfl (fun K hK => ?_) AllReadyH.nil
              go_simp
              refine hK.out _ _ (HST.out (HB6.out.on (below_alloc w6 (.cells #[.int .i64 ty, .int .i64 bits, .int .i64 base, .int .i64 size, .int .i64 used, .int .i64 frm, .int .i64 badge, .bool full, .int .u64 (word : Int), .int .u64 (d0 : Int), .int .u64 (d1 : Int), .int .u64 (d2 : Int), .int .u64 (d3 : Int)] 87)))) (fun hHeld => ?_)
              clear hK K
              try simp only [Act.put, List.setIfInBounds_toArray, List.set_cons_zero, List.set_cons_succ, List.getElem_toArray, List.getElem_cons_zero, List.getElem_cons_succ]
              have HB9 := Lib.hid (HB6.out.on (below_alloc w6 (.cells #[.int .i64 ty, .int .i64 bits, .int .i64 base, .int .i64 size, .int .i64 used, .int .i64 frm, .int .i64 badge, .bool full, .int .u64 (word : Int), .int .u64 (d0 : Int), .int .u64 (d1 : Int), .int .u64 (d2 : Int), .int .u64 (d3 : Int)] 87)))
              have HO9 := Lib.hid (HO6.out.alloc (.cells #[.int .i64 ty, .int .i64 bits, .int .i64 base, .int .i64 size, .int .i64 used, .int .i64 frm, .int .i64 badge, .bool full, .int .u64 (word : Int), .int .u64 (d0 : Int), .int .u64 (d1 : Int), .int .u64 (d2 : Int), .int .u64 (d3 : Int)] 87))
              have hnew : ∀ j u, [Value.int .i64 ty, .int .i64 bits, .int .i64 base, .int .i64 size, .int .i64 used, .int .i64 frm, .int .i64 badge, .bool full, .int .u64 (word : Int), .int .u64 (d0 : Int), .int .u64 (d1 : Int), .int .u64 (d2 : Int), .int .u64 (d3 : Int)][j]? = some u → (w6.alloc (.cells #[.int .i64 ty, .int .i64 bits, .int .i64 base, .int .i64 size, .int .i64 used, .int .i64 frm, .int .i64 badge, .bool full, .int .u64 (word : Int), .int .u64 (d0 : Int), .int .u64 (d1 : Int), .int .u64 (d2 : Int), .int .u64 (d3 : Int)] 87)).cell? ((⟨w6.heap.size, 0, none⟩ : Addr).add j) = some u := fun j u hu => by
                rw [Addr.add_mid, Nat.zero_add]
                have := cell_of_row _ _ j _ _ _ (heap_alloc_new w6 (.cells #[.int .i64 ty, .int .i64 bits, .int .i64 base, .int .i64 size, .int .i64 used, .int .i64 frm, .int .i64 badge, .bool full, .int .u64 (word : Int), .int .u64 (d0 : Int), .int .u64 (d1 : Int), .int .u64 (d2 : Int), .int .u64 (d3 : Int)] 87))
                refine Eq.trans this ?_
                rw [← hu]; simp
              have HNEW := Lib.hid hnew
              clear hnew
              refine wpAnyH_ready (rs := [9]) (by kernel_rfl) (by simp) ?_
              refine AllReadyH.cons rfl (fun K hK => ?_) AllReadyH.nil
              refine step_append_lies _ rfl _ _ 60 rfl V.heap.size 87 i0 Tng.zero.val 13 104 Try.underlying60 hii hz0 hz1 hz2 rfl (by decide) v i (tflat (s.th.take i)) rfl HO9.out ⟨w6.heap.size, 0, none⟩ 1 1 [.int .i64 ty, .int .i64 bits, .int .i64 base, .int .i64 size, .int .i64 used, .int .i64 frm, .int .i64 badge, .bool full, .int .u64 (word : Int), .int .u64 (d0 : Int), .int .u64 (d1 : Int), .int .u64 (d2 : Int), .int .u64 (d3 : Int)] rfl rfl HNEW.out HONE.out (by decide) HC3.out HC4.out HB9.out.size _ rfl ?_
              intro g' gcap w7 hown hgrow _ _
              have HB7 := Lib.hid (HB9.out.grown hgrow HV0.out)
              have k4 := HB7.out.h4
              have kf := HB7.out.hf 4
              have HB8 := Lib.hid (HB7.out.set 4 (.slice (some ⟨g', 0, none⟩) (i + 1) gcap) (.inr rfl))
              have HO8 : Hid ((w7.setCell ⟨h, 4, none⟩ (.slice (some ⟨g', 0, none⟩) (i + 1) gcap)).ownsRow V.heap.size 87 13 (.slice (some ⟨g', 0, none⟩) (i + 1) gcap) (i + 1) (tflat (s.th.take (i + 1)))) := Lib.hid (by rw [HU.out]; exact hown.kept (row := some h) ⟨rfl, rfl, rfl, by simp [World.setCell], fun k _ e => Below.heap_setCell _ _ _ _ (fun q => e (by rw [q]))⟩ (.inr (fun e => by have := (hown.lt _ rfl).1; have := HB7.out.hV; injection e with e; omega)))
              refine hK.out _ _ (HST.out HB7.out) (fun hHeld => ?_)
              clear hK K
              try simp only [Act.put, List.setIfInBounds_toArray, List.set_cons_zero, List.set_cons_succ, List.getElem_toArray, List.getElem_cons_zero, List.getElem_cons_succ]
              refine wpAnyH_take (i := 10) (v := ?_) rfl (by kernel_rfl) (by kernel_rfl) (by kernel_rfl) (fun _ _ _ h => h) (Or.inl ⟨by rfl, ?_⟩) (by assumption) ?_
              rotate_left
              · intro w hSw; go_split_ands; go_simp; try with_reducible rfl
              simp only [Act.put, List.setIfInBounds_toArray, List.set_cons_zero, List.set_cons_succ, List.getElem_toArray, List.getElem_cons_zero, List.getElem_cons_succ]
              refine wpAnyH_ready (rs := [11]) (by kernel_rfl) (by simp) ?_
              refine AllReadyH.cons rfl (fun K hK => ?_) AllReadyH.nil
              go_simp
              refine hK.out _ _ (HST.out HB8.out) (fun hHeld => ?_)
              clear hK K
              try simp only [Act.put, List.setIfInBounds_toArray, List.set_cons_zero, List.set_cons_succ, List.getElem_toArray, List.getElem_cons_zero, List.getElem_cons_succ]
              refine wpAnyH_done (by kernel_rfl) ?_ _
              generalize World.setCell _ _ _ = w8 at HB8 HO8 ⊢
              clear hown hgrow k4 kf h4 hii hz0 hz1 hz2 y0 y1 y2 y3 y4 y5 y6 y7 y8 y9 y10 y11 y12 c4
              go_wp2
              go_roundg (m - (i + 1))
              case measure => have := HI.out; have := HLT.out; omega
              case rel => exact ⟨i + 1, _, by have := HI.out; have := HLT.out; omega, by go_num, HB8.out, HO8.out⟩
            · go_simp
              refine hK.out _ _ (HST.out (HB6.out.on (below_alloc w6 (.cells #[.int .i64 ty, .int .i64 bits, .int .i64 base, .int .i64 size, .int .i64 used, .int .i64 frm, .int .i64 badge, .bool full, .int .u64 (word : Int), .int .u64 (d0 : Int), .int .u64 (d1 : Int), .int .u64 (d2 : Int), .int .u64 (d3 : Int)] 87)))) (fun hHeld => ?_)
              clear hK K
              try simp only [Act.put, List.setIfInBounds_toArray, List.set_cons_zero, List.set_cons_succ, List.getElem_toArray, List.getElem_cons_zero, List.getElem_cons_succ]
              have h4'' := (HB6.out.on (below_alloc w6 (.cells #[.int .i64 ty, .int .i64 bits, .int .i64 base, .int .i64 size, .int .i64 used, .int .i64 frm, .int .i64 badge, .bool full, .int .u64 (word : Int), .int .u64 (d0 : Int), .int .u64 (d1 : Int), .int .u64 (d2 : Int), .int .u64 (d3 : Int)] 87))).h4
              refine wpAnyH_ready (rs := [1]) (by kernel_rfl) (by simp) ?_
              refine AllReadyH.cons rfl (fun K hK => ?_) AllReadyH.nil
              go_simp
              refine hK.out _ _ (HST.out (HB6.out.on (below_alloc w6 (.cells #[.int .i64 ty, .int .i64 bits, .int .i64 base, .int .i64 size, .int .i64 used, .int .i64 frm, .int .i64 badge, .bool full, .int .u64 (word : Int), .int .u64 (d0 : Int), .int .u64 (d1 : Int), .int .u64 (d2 : Int), .int .u64 (d3 : Int)] 87)))) (fun hHeld => ?_)
              clear hK K
              try simp only [Act.put, List.setIfInBounds_toArray, List.set_cons_zero, List.set_cons_succ, List.getElem_toArray, List.getElem_cons_zero, List.getElem_cons_succ]
              have HB9 := Lib.hid (HB6.out.on (below_alloc w6 (.cells #[.int .i64 ty, .int .i64 bits, .int .i64 base, .int .i64 size, .int .i64 used, .int .i64 frm, .int .i64 badge, .bool full, .int .u64 (word : Int), .int .u64 (d0 : Int), .int .u64 (d1 : Int), .int .u64 (d2 : Int), .int .u64 (d3 : Int)] 87)))
              have HO9 := Lib.hid (HO6.out.alloc (.cells #[.int .i64 ty, .int .i64 bits, .int .i64 base, .int .i64 size, .int .i64 used, .int .i64 frm, .int .i64 badge, .bool full, .int .u64 (word : Int), .int .u64 (d0 : Int), .int .u64 (d1 : Int), .int .u64 (d2 : Int), .int .u64 (d3 : Int)] 87))
              have hnew : ∀ j u, [Value.int .i64 ty, .int .i64 bits, .int .i64 base, .int .i64 size, .int .i64 used, .int .i64 frm, .int .i64 badge, .bool full, .int .u64 (word : Int), .int .u64 (d0 : Int), .int .u64 (d1 : Int), .int .u64 (d2 : Int), .int .u64 (d3 : Int)][j]? = some u → (w6.alloc (.cells #[.int .i64 ty, .int .i64 bits, .int .i64 base, .int .i64 size, .int .i64 used, .int .i64 frm, .int .i64 badge, .bool full, .int .u64 (word : Int), .int .u64 (d0 : Int), .int .u64 (d1 : Int), .int .u64 (d2 : Int), .int .u64 (d3 : Int)] 87)).cell? ((⟨w6.heap.size, 0, none⟩ : Addr).add j) = some u := fun j u hu => by
                rw [Addr.add_mid, Nat.zero_add]
                have := cell_of_row _ _ j _ _ _ (heap_alloc_new w6 (.cells #[.int .i64 ty, .int .i64 bits, .int .i64 base, .int .i64 size, .int .i64 used, .int .i64 frm, .int .i64 badge, .bool full, .int .u64 (word : Int), .int .u64 (d0 : Int), .int .u64 (d1 : Int), .int .u64 (d2 : Int), .int .u64 (d3 : Int)] 87))
                refine Eq.trans this ?_
                rw [← hu]; simp
              have HNEW := Lib.hid hnew
              clear hnew
              refine wpAnyH_ready (rs := [9]) (by kernel_rfl) (by simp) ?_
              refine AllReadyH.cons rfl (fun K hK => ?_) AllReadyH.nil
              refine step_append_lies _ rfl _ _ 60 rfl V.heap.size 87 i0 Tng.zero.val 13 104 Try.underlying60 hii hz0 hz1 hz2 rfl (by decide) v i (tflat (s.th.take i)) rfl HO9.out ⟨w6.heap.size, 0, none⟩ 1 1 [.int .i64 ty, .int .i64 bits, .int .i64 base, .int .i64 size, .int .i64 used, .int .i64 frm, .int .i64 badge, .bool full, .int .u64 (word : Int), .int .u64 (d0 : Int), .int .u64 (d1 : Int), .int .u64 (d2 : Int), .int .u64 (d3 : Int)] rfl rfl HNEW.out HONE.out (by decide) HC3.out HC4.out HB9.out.size _ rfl ?_
              intro g' gcap w7 hown hgrow _ _
              have HB7 := Lib.hid (HB9.out.grown hgrow HV0.out)
              have k4 := HB7.out.h4
              have kf := HB7.out.hf 4
              have HB8 := Lib.hid (HB7.out.set 4 (.slice (some ⟨g', 0, none⟩) (i + 1) gcap) (.inr rfl))
              have HO8 : Hid ((w7.setCell ⟨h, 4, none⟩ (.slice (some ⟨g', 0, none⟩) (i + 1) gcap)).ownsRow V.heap.size 87 13 (.slice (some ⟨g', 0, none⟩) (i + 1) gcap) (i + 1) (tflat (s.th.take (i + 1)))) := Lib.hid (by rw [HU.out]; exact hown.kept (row := some h) ⟨rfl, rfl, rfl, by simp [World.setCell], fun k _ e => Below.heap_setCell _ _ _ _ (fun q => e (by rw [q]))⟩ (.inr (fun e => by have := (hown.lt _ rfl).1; have := HB7.out.hV; injection e with e; omega)))
              refine hK.out _ _ (HST.out HB7.out) (fun hHeld => ?_)
              clear hK K
              try simp only [Act.put, List.setIfInBounds_toArray, List.set_cons_zero, List.set_cons_succ, List.getElem_toArray, List.getElem_cons_zero, List.getElem_cons_succ]
              refine wpAnyH_take (i := 10) (v := ?_) rfl (by kernel_rfl) (by kernel_rfl) (by kernel_rfl) (fun _ _ _ h => h) (Or.inl ⟨by rfl, ?_⟩) (by assumption) ?_
              rotate_left
              · intro w hSw; go_split_ands; go_simp; try with_reducible rfl
              simp only [Act.put, List.setIfInBounds_toArray, List.set_cons_zero, List.set_cons_succ, List.getElem_toArray, List.getElem_cons_zero, List.getElem_cons_succ]
              refine wpAnyH_ready (rs := [11]) (by kernel_rfl) (by simp) ?_
              refine AllReadyH.cons rfl (fun K hK => ?_) AllReadyH.nil
              go_simp
              refine hK.out _ _ (HST.out HB8.out) (fun hHeld => ?_)
              clear hK K
              try simp only [Act.put, List.setIfInBounds_toArray, List.set_cons_zero, List.set_cons_succ, List.getElem_toArray, List.getElem_cons_zero, List.getElem_cons_succ]
              refine wpAnyH_done (by kernel_rfl) ?_ _
              generalize World.setCell _ _ _ = w8 at HB8 HO8 ⊢
              clear hown hgrow k4 kf h4 hii hz0 hz1 hz2 y0 y1 y2 y3 y4 y5 y6 y7 y8 y9 y10 y11 y12 c4
              go_wp2
              go_roundg (m - (i + 1))
              case measure => have := HI.out; have := HLT.out; omega
              case rel => exact ⟨i + 1, _, by have := HI.out; have := HLT.out; omega, by go_num, HB8.out, HO8.out⟩
        · have hlt2 : ¬ (i : Int) < (m : Int) := by omega
          have him : i = m := by have := HI.out; omega
          subst him
          have hT : ∃ C' cc', v = .slice C' i cc' ∧ ∀ w', (∀ k, V.heap.size ≤ k → k < wr.heap.size → w'.heap[k]? = wr.heap[k]?) → wr.heap.size ≤ w'.heap.size → ThingsAt w' w'.heap.size C' s.th := by
            have ho := HO.out
            rw [show s.th.take i = s.th by rw [HM.out, List.take_length]] at ho
            rcases ho.2 with ⟨rfl, h0⟩ | ⟨g0, cap, cur, rfl, hb0, hg0, _⟩
            · exact ⟨none, 0, by rw [h0], fun w' _ _ h1 => absurd h1 (by rw [← HM.out]; omega)⟩
            · have hlt0 : g0 < wr.heap.size := (Array.getElem?_eq_some_iff.1 hg0).1
              refine ⟨_, _, rfl, fun w' hst hsz h1 => ⟨g0, 0, rfl, by omega, fun j hj => ThC.of_flat (fun k u hk => ?_) hj⟩⟩
              have hk2 : k < i * 13 := by have := (List.getElem?_eq_some_iff.1 hk).1; rw [tflat_len, ← HM.out] at this; exact this
              rw [World.cell?_of_block (w := wr) (a := ⟨g0, k, none⟩) (hst g0 hb0 hlt0), ho.cellAt k hk2]
              exact hk
          obtain ⟨C', cc', rfl, hTL⟩ := hT
          have HTL := Lib.hid hTL
          have qf0 := qf 0
          have qf1 := qf 1
          have qf2 := qf 2
          have qf3 := qf 3
          have qf4 := qf 4
          have hq : q ≠ h := by have := HB.out.qh; omega
          clear hTL HO hlt HI qf hf
          go_wp2_with fail
          change bodyPost _ _ _ _ _ (put5 wr q (.int .i64 a) (.int .i64 b) (.int .i64 c) (.slice A' n ca') (.slice C' i cc'))
          obtain ⟨e0, e1, e2, e3, e4⟩ := put5_cells q0 q1 q2 q3 q4 (.int .i64 a) (.int .i64 b) (.int .i64 c) (.slice A' n ca') (.slice C' i cc')
          have hheap := fun (k : Nat) (hk : k ≠ q) => put5_heap wr q (.int .i64 a) (.int .i64 b) (.int .i64 c) (.slice A' n ca') (.slice C' i cc') hk
          have hsz := put5_size wr q (.int .i64 a) (.int .i64 b) (.int .i64 c) (.slice A' n ca') (.slice C' i cc')
          have hqW : w.heap.size ≤ q := HQW.out
          have hbl := put5_below HB.out.par.old hqW (.int .i64 a) (.int .i64 b) (.int .i64 c) (.slice A' n ca') (.slice C' i cc')
          generalize put5 wr q (.int .i64 a) (.int .i64 b) (.int .i64 c) (.slice A' n ca') (.slice C' i cc') = wz at *
          refine bodyPost_ret (by simp [results, Try.results24, go_sem, e0, e1, e2, e3, e4]; rfl) rfl ?_
          have h1 := HB.out.qh
          have h2 := HH3.out
          have h3 := HB.out.size
          refine ⟨A', ca', C', cc', rfl, ⟨HSL.out wz (fun k ha hb => (hheap k (by omega)).trans (HB.out.stay k hb (by omega))) (by omega), HTL.out wz (fun k ha hb => hheap k (by have := HB.out.hV; omega)) (by omega)⟩, hbl⟩
end Go.Proofs.Ytloemadjiombhaa
