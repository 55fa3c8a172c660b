/-
  Numbers of a call's own in a block, told by a function; the walk of package right's All: eight numbers, rising, new. No condition.
-/
import Derived.Test.YtbhjjpmldhlobaaQb
namespace Go.Proofs.Ytbhjjpmldhlobaa
open Go.RowKit

theorem below_on {w w0 w1 : World} (h : Below w.heap.size w w0) (k : Below w0.heap.size w0 w1) : Below w.heap.size w w1 := h.trans (k.mono h.size)
theorem below_alloc (w : World) (ob : Obj) : Below w.heap.size w (w.alloc ob) := (Below.refl _ _).alloc (Nat.le_refl _) _
theorem below_draws {B : Nat} {a w : World} (h : Below B a w) (n : Nat) : Below B a (w.drewN n) := h.trans ⟨rfl, rfl, rfl, Nat.le_refl _, fun _ _ => rfl⟩
theorem set_ne (w : World) (b : Nat) (i j : Nat) (v : Value) (h : i ≠ j) : (w.setCell ⟨b, i, none⟩ v).cell? ⟨b, j, none⟩ = w.cell? ⟨b, j, none⟩ :=
  World.cell?_setCell_other _ _ _ _ (fun q => h (by injection q))

/-- numbers f of a call's own lie in g; what was before stands -/
structure Nf (W : World) (g n : Nat) (f : Nat → Int) (w : World) : Prop where
  cell : ∀ j, j < n → w.cell? ⟨g, j, none⟩ = some (.int .i64 (f j))
  free : ∀ j, w.frozen? ⟨g, j, none⟩ = false
  lt : g < w.heap.size
  base : W.heap.size ≤ g
  old : Below W.heap.size W w
section
variable {W w w' : World} {g n : Nat} {f f' : Nat → Int}
theorem Nf.on (h : Nf W g n f w) (hb : Below w.heap.size w w') : Nf W g n f w' :=
  ⟨fun j hj => by rw [hb.cell (p := ⟨g, _, none⟩) h.lt]; exact h.cell j hj, fun j => by rw [World.frozen?_of_block (w := w) (a := ⟨g, j, none⟩) (hb.block g h.lt)]; exact h.free j,
    Nat.lt_of_lt_of_le h.lt hb.size, h.base, below_on h.old hb⟩
theorem Nf.drewN (h : Nf W g n f w) (k : Nat) : Nf W g n f (w.drewN k) := ⟨h.cell, h.free, h.lt, h.base, below_draws h.old k⟩
theorem Nf.same (h : Nf W g n f w) (e : ∀ j, j < n → f j = f' j) : Nf W g n f' w := ⟨fun j hj => by rw [h.cell j hj, e j hj], h.free, h.lt, h.base, h.old⟩
theorem Nf.set (h : Nf W g n f w) {i : Nat} (z : Int) : Nf W g n (fun j => if j = i then z else f j) (w.setCell ⟨g, i, none⟩ (.int .i64 z)) := by
  refine ⟨fun j hj => ?_, fun j => by rw [World.frozen?_setCell]; exact h.free j, by simpa [World.setCell] using h.lt, h.base,
    h.old.trans ⟨rfl, rfl, rfl, by simp [World.setCell], fun k hk => Below.heap_setCell _ _ _ _ (by have := h.base; show k ≠ g; omega)⟩⟩
  by_cases e : j = i
  · subst e
    rw [World.cell?_setCell_same _ _ _ (h.cell j hj), if_pos rfl]
  · rw [set_ne _ _ _ _ _ (fun q => e q.symm), h.cell j hj, if_neg e]
theorem Nf.from (h : Nf w g n f w') (hb : Below W.heap.size W w) : Nf W g n f w' := ⟨h.cell, h.free, h.lt, Nat.le_trans hb.size h.base, below_on hb h.old⟩
end
theorem make_ints8 (w : World) : (Instr.makeSlice 26 (.int .i64 8) (.int .i64 8)).run Try.prog w = .ok (.slice (some ⟨w.heap.size, 0, none⟩) 8 8) (w.alloc (.cells #[.int .i64 0, .int .i64 0, .int .i64 0, .int .i64 0, .int .i64 0, .int .i64 0, .int .i64 0, .int .i64 0] 3)) := by kernel_rfl
theorem ints8_new (w : World) : Nf w w.heap.size 8 (fun _ => 0) (w.alloc (.cells #[.int .i64 0, .int .i64 0, .int .i64 0, .int .i64 0, .int .i64 0, .int .i64 0, .int .i64 0, .int .i64 0] 3)) :=
  ⟨fun j hj => by
    rw [cell_of_row _ _ j _ _ _ (heap_alloc_new w _)]
    match j, hj with
    | 0, _ | 1, _ | 2, _ | 3, _ | 4, _ | 5, _ | 6, _ | 7, _ => rfl, fun j => frozen_of_row _ _ j _ _ (heap_alloc_new w _), by simp, Nat.le_refl _, below_alloc _ _⟩

/-- what stands in the list behind i rounds -/
def upTo (i j : Nat) : Int := if j < i then j else 0
theorem upTo_zero (j : Nat) : 0 = upTo 0 j := by unfold upTo; simp
theorem upTo_succ (i j : Nat) : (if j = i then (i : Int) else upTo i j) = upTo (i + 1) j := by
  unfold upTo
  by_cases h : j = i
  · subst h
    rw [if_pos rfl, if_pos (by omega)]
  · rw [if_neg h]
    by_cases h2 : j < i
    · rw [if_pos h2, if_pos (by omega)]
    · rw [if_neg h2, if_neg (by omega)]
def AllRel (W : World) (g : Nat) (k : Nat) (q : Value) (wr : World) : Prop := ∃ i : Nat, k + i = 8 ∧ q = .int .i64 i ∧ Nf W g 8 (upTo i) wr

set_option maxHeartbeats 1000000 in
theorem all_any (w : World) : Calls Try.prog 9 #[] w fun e w' => ∃ g, e = .returned (.slice (some ⟨g, 0, none⟩) 8 8) ∧ Nf w g 8 (fun j => (j : Int)) w' := by
  have hmk := make_ints8
  have H0 := Lib.hid ((ints8_new w).same (fun j _ => upTo_zero j))
  go_enter Try.func9, Try.ntmps9
  go_wp2_with fail
  clear hmk
  generalize hg : w.heap.size = g at *
  generalize w.alloc (.cells #[.int .i64 0, .int .i64 0, .int .i64 0, .int .i64 0, .int .i64 0, .int .i64 0, .int .i64 0, .int .i64 0] 3) = w1 at *
  go_loopg [6] 8 (fun k q wr => AllRel w g k q wr)
  case atStart => exact ⟨0, by omega, rfl, H0.out⟩
  case round =>
    obtain ⟨i, hk, rfl, hb⟩ := hrel
    have HK := Lib.hid hk
    have HD := Lib.hid hb
    clear hk hb H0
    by_cases hlt : i < 8
    · have HLT := Lib.hid hlt
      have hlt2 : (i : Int) < 8 := by omega
      have c1 := HD.out.cell i hlt
      have f1 := HD.out.free i
      clear hlt
      go_wp2_with fail
      go_roundg (8 - (i + 1))
      case measure => have := HK.out; have := HLT.out; omega
      case rel => exact ⟨i + 1, by have := HLT.out; omega, by go_num, (HD.out.set (i := i) (i : Int)).same fun j _ => upTo_succ i j⟩
    · have hlt2 : ¬ (i : Int) < 8 := by omega
      clear hlt
      go_wp2
      go_ret
      refine ⟨g, rfl, HD.out.same fun j hj => ?_⟩
      have := HK.out
      unfold upTo
      rw [if_pos (by omega)]
end Go.Proofs.Ytbhjjpmldhlobaa
