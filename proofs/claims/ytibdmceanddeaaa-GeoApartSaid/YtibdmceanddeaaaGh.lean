/-
  Bools of the call's own; the walk of the law's take. Condition: the words that are taken lie within the bools, and nobody has them.
-/
import Derived.Test.YtibdmceanddeaaaGc
namespace Go.Proofs.Ytibdmceanddeaaa
open Go.RowKit

theorem made_cell (w : World) (z : Array Value) (n t k : Nat) (hk : k < n) : (w.alloc (.cells (madeCells z n) t)).cell? ⟨w.heap.size, k, none⟩ = some (z[k % z.size]!) := by
  have e := heap_alloc_new w (.cells (madeCells z n) t)
  rw [cell_of_row _ _ k _ _ _ e]
  unfold madeCells
  simp [hk]
theorem made_free (w : World) (z : Array Value) (n t k : Nat) : (w.alloc (.cells (madeCells z n) t)).frozen? ⟨w.heap.size, k, none⟩ = false :=
  frozen_of_row _ _ k _ _ (heap_alloc_new w (.cells (madeCells z n) t))
theorem info4_all : (Try.prog.info? 4).map (fun i => (i.zero, i.size, i.bytes)) = some (some (.bool false), 1, 1) := by kernel_rfl
theorem info4_parts : ∃ i : TypeInfo, Try.prog.info? 4 = some i ∧ i.zero = some (.bool false) ∧ i.size = 1 ∧ i.bytes = 1 := by
  have h := info4_all
  cases hq : Try.prog.info? 4 with
  | none => simp [hq] at h
  | some i =>
    simp [hq] at h
    exact ⟨i, rfl, h.1, h.2.1, h.2.2⟩
theorem make_bools (n : Nat) (hn : n ≤ 1000000) (w : World) : (Instr.makeSlice 39 (.int .i64 (n : Int)) (.int .i64 (n : Int))).run Try.prog w = .ok (.slice (some ⟨w.heap.size, 0, none⟩) n n) (w.alloc (.cells (madeCells #[.bool false] n) 4)) := by
  obtain ⟨i, h1, h2, h3, h4⟩ := info4_parts
  have := run_make w 39 4 i (.bool false) Try.underlying39 h1 h2 .i64 .i64 n n (by omega) (by omega) (by rw [h4]; omega) (by omega)
  rw [h3] at this
  simpa [Value.cells] using this

/-- bools u of the call's own lie in G, a Geo in b; what was before stands -/
structure Us (w0 : World) (b G N : Nat) (g : Gd) (u : Nat → Bool) (w : World) : Prop where
  box : Bx w b g
  cell : ∀ j, j < N → w.cell? ⟨G, j, none⟩ = some (.bool (u j))
  free : ∀ j, w.frozen? ⟨G, j, none⟩ = false
  ne : b ≠ G
  lt : G < w.heap.size
  base : w0.heap.size ≤ G
  old : Below w0.heap.size w0 w
section
variable {w0 w w' : World} {b G N : Nat} {g : Gd} {u v : Nat → Bool}
theorem Us.on (h : Us w0 b G N g u w) (hb : Below w.heap.size w w') : Us w0 b G N g u w' :=
  ⟨h.box.on hb, fun j hj => by rw [hb.cell (p := ⟨G, _, none⟩) h.lt]; exact h.cell j hj,
    fun j => by rw [World.frozen?_of_block (w := w) (a := ⟨G, j, none⟩) (hb.block G h.lt)]; exact h.free j, h.ne, Nat.lt_of_lt_of_le h.lt hb.size, h.base, below_on h.old hb⟩
theorem Us.same (h : Us w0 b G N g u w) (e : ∀ j, j < N → u j = v j) : Us w0 b G N g v w :=
  ⟨h.box, fun j hj => by rw [h.cell j hj, e j hj], h.free, h.ne, h.lt, h.base, h.old⟩
theorem Us.set (h : Us w0 b G N g u w) {i : Nat} (hi : i < N) : Us w0 b G N g (fun j => u j || decide (j = i)) (w.setCell ⟨G, i, none⟩ (.bool true)) := by
  have hB : Below w0.heap.size w0 (w.setCell ⟨G, i, none⟩ (.bool true)) :=
    h.old.trans ⟨rfl, rfl, rfl, by simp [World.setCell], fun k hk => Below.heap_setCell _ _ _ _ (by have := h.base; show k ≠ G; omega)⟩
  have hn : ∀ j, (w.setCell ⟨G, i, none⟩ (.bool true)).cell? ⟨b, j, none⟩ = w.cell? ⟨b, j, none⟩ := fun j => World.cell?_setCell_other _ _ _ _ (fun q => by injection q with q; exact h.ne q.symm)
  refine ⟨⟨by rw [hn]; exact h.box.t, by rw [hn]; exact h.box.s, by rw [hn]; exact h.box.k, by simpa [World.setCell] using h.box.lt⟩, fun j hj => ?_, fun j => by rw [World.frozen?_setCell]; exact h.free j, h.ne, by simpa [World.setCell] using h.lt, h.base, hB⟩
  by_cases e : j = i
  · subst e
    rw [World.cell?_setCell_same _ _ _ (h.cell j hj)]
    simp
  · rw [World.cell?_setCell_other _ _ _ _ (fun q => e (by injection q with _ q; exact q.symm)), h.cell j hj]
    simp [e]
end

def TakeRel (w0 : World) (b G N : Nat) (g : Gd) (u : Nat → Bool) (a n : Nat) (k : Nat) (q : Value) (wr : World) : Prop :=
  ∃ i : Nat, k + i = n ∧ q = .int .i64 ((a + i : Nat) : Int) ∧ Us w0 b G N g (fun j => u j || decide (a ≤ j ∧ j < a + i)) wr

set_option maxHeartbeats 1000000 in
theorem take_any {w0 w : World} {b G N : Nat} {g : Gd} {u : Nat → Bool} {a n : Nat} (h : Us w0 b G N g u w) (hN : N ≤ 1000000) (han : a + n ≤ N) (hu : ∀ j, a ≤ j → j < a + n → u j = false) :
    Calls Try.prog 23 #[.slice (some ⟨G, 0, none⟩) N N, .int .i64 (a : Int), .int .i64 (n : Int)] w fun e w' => e = .returned (.bool true) ∧ Us w0 b G N g (fun j => u j || decide (a ≤ j ∧ j < a + n)) w' := by
  have HU := Lib.hid h
  have HN := Lib.hid hN
  have HA := Lib.hid han
  have HF := Lib.hid hu
  have d1 : decide ((a : Int) < 0) = false := decide_eq_false (by omega)
  have d2 : decide ((n : Int) < 0) = false := decide_eq_false (by omega)
  have d3 : decide ((N : Int) < (a : Int) + (n : Int)) = false := decide_eq_false (by omega)
  have h4 : (a : Int) + (n : Int) ≤ (N : Int) := by omega
  have h5 : (N : Int) ≤ 1000000 := by omega
  clear h hN han hu
  go_enter Try.func23, Try.ntmps23
  go_wp2_with fail
  go_loopg [7] n (fun k q wr => TakeRel w0 b G N g u a n k q wr)
  case atStart => exact ⟨0, by omega, rfl, HU.out.same fun j hj => by simp; omega⟩
  case round =>
    obtain ⟨i, hk, rfl, hs⟩ := hrel
    have HK := Lib.hid hk
    have HS := Lib.hid hs
    clear hk hs HU
    by_cases hlt : i < n
    · have HLT := Lib.hid hlt
      have hlt2 : ((a + i : Nat) : Int) < (a : Int) + (n : Int) := by omega
      have h6 : ((a + i : Nat) : Int) < (N : Int) := by omega
      have h7 : a + i < N := by omega
      have c1 := HS.out.cell (a + i) h7
      have f1 := HS.out.free (a + i)
      rw [HF.out (a + i) (by omega) (by omega), show decide (a ≤ a + i ∧ a + i < a + i) = false from decide_eq_false (by omega)] at c1
      have c2 : wr.cell? ⟨G, a + i, none⟩ = some (.bool false) := c1
      clear c1
      go_wp2_with fail
      go_roundg (n - (i + 1))
      case measure => have := HK.out; have := HLT.out; omega
      case rel =>
        refine ⟨i + 1, by have := HLT.out; omega, congrArg (Value.int .i64) (by omega), (HS.out.set h7).same fun j hj => ?_⟩
        show ((u j || decide (a ≤ j ∧ j < a + i)) || decide (j = a + i)) = (u j || decide (a ≤ j ∧ j < a + (i + 1)))
        rw [Bool.or_assoc, ← Bool.decide_or]
        exact congrArg (u j || ·) (decide_eq_decide.2 (by omega))
    · go_wp2
      go_ret
      have hi : i = n := by have := HK.out; omega
      subst hi
      exact ⟨rfl, HS.out⟩

/-- what is taken from the front is before X, what from the back from Y on -/
def upto (X Y : Nat) (j : Nat) : Bool := decide (j < X ∨ Y ≤ j)
theorem take_front {w0 w : World} {b G N X Y m a : Nat} {g : Gd} {f n : Int} (h : Us w0 b G N g (upto X Y) w) (hf : f = (a : Int)) (hn : n = (m : Int)) (ha : a = X) (hY : X + m ≤ Y) (hYN : Y ≤ N) (hN : N ≤ 1000000) :
    Calls Try.prog 23 #[.slice (some ⟨G, 0, none⟩) N N, .int .i64 f, .int .i64 n] w fun e w' => e = .returned (.bool true) ∧ Us w0 b G N g (upto (X + m) Y) w' := by
  subst hf hn ha
  refine (take_any h hN (by omega) (fun j h1 h2 => ?_)).mono ?_
  · unfold upto; exact decide_eq_false (by omega)
  · rintro e w' ⟨rfl, hs⟩
    refine ⟨rfl, hs.same fun j hj => ?_⟩
    unfold upto
    rw [← Bool.decide_or]
    exact decide_eq_decide.2 (by omega)
theorem take_back {w0 w : World} {b G N X C a : Nat} {g : Gd} {f : Int} (h : Us w0 b G N g (upto X N) w) (hf : f = (a : Int)) (ha : a = C) (hX : X ≤ C) (hC : C + 8 = N) (hN : N ≤ 1000000) :
    Calls Try.prog 23 #[.slice (some ⟨G, 0, none⟩) N N, .int .i64 f, .int .i64 8] w fun e w' => e = .returned (.bool true) ∧ Us w0 b G N g (upto X C) w' := by
  subst hf ha
  refine (take_any (n := 8) h hN (by omega) (fun j h1 h2 => ?_)).mono ?_
  · unfold upto; exact decide_eq_false (by omega)
  · rintro e w' ⟨rfl, hs⟩
    refine ⟨rfl, hs.same fun j hj => ?_⟩
    unfold upto
    rw [← Bool.decide_or]
    exact decide_eq_decide.2 (by omega)
end Go.Proofs.Ytibdmceanddeaaa
