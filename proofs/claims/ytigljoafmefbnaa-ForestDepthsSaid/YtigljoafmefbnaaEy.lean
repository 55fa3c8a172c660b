/-
  What a list or a forest handed back comes to. Condition: none.
-/
import Derived.Test.YtigljoafmefbnaaEi
namespace Go.Proofs.Ytigljoafmefbnaa
open Go.RowKit

theorem ListF.to {w w' : World} {e : Ending} {L : List Int} (h : ListF w w' e L) {n : Nat} (hn : n = L.length) : ∃ B cb, e = .returned (.slice B n cb) ∧ n ≤ cb ∧ IntsAt w' w'.heap.size B L ∧ Below w.heap.size w w' := by
  subst hn
  exact h
theorem GivesF.yes {w w' : World} {e : Ending} {m : List Int} (h : GivesF w w' e (some m)) {n : Nat} (hn : n = m.length) : ∃ B cb, e = .returned (.tuple #[.agg #[.slice B n cb], .bool true]) ∧ n ≤ cb ∧ IntsAt w' w'.heap.size B m ∧ Below w.heap.size w w' := by
  subst hn
  exact h
theorem GivesF.any {w w' : World} {e : Ending} {r : Option (List Int)} (h : GivesF w w' e r) {n : Nat} {s : Bool} (hn : n = (r.getD []).length) (hs : s = r.isSome) : ∃ B cb, e = .returned (.tuple #[.agg #[.slice B n cb], .bool s]) ∧ n ≤ cb ∧ IntsAt w' w'.heap.size B (r.getD []) ∧ Below w.heap.size w w' := by
  subst hn
  subst hs
  exact h
theorem GivesF.no {w w' : World} {e : Ending} (h : GivesF w w' e none) : ∃ B cb, e = .returned (.tuple #[.agg #[.slice B 0 cb], .bool false]) ∧ Below w.heap.size w w' := by
  obtain ⟨B, cb, h1, _, _, h2⟩ := h
  exact ⟨B, cb, h1, h2⟩
/-- a forest of five in a row -/
theorem lit_cells (w : World) (cs : Array Value) (t : TypeId) {j : Nat} {v : Value} (h : cs[j]? = some v) : (w.alloc (.cells cs t)).cell? ⟨w.heap.size, j, none⟩ = some v := by
  rw [cell_of_row _ _ _ _ _ _ (heap_alloc_new w _), h]
/-- of what is not good -/
structure Bad (l : List Int) : Prop where
  few : l.length ≤ 10
  good : fgood l = false
  depth : fdepth l 0 = -1
  order : forder l = []
  below : fbelow l 0 = []
  add : fadd l 0 (-1) = none
  drop : fdrop l 0 = none
  prune : fprune l 0 = none
def bads : List (List Int) := [[0], [1, 0], [-3], [2, -1], [-2, 0]]
theorem bad_all : ∀ l ∈ bads, l.length ≤ 10 ∧ fgood l = false ∧ fdepth l 0 = -1 ∧ forder l = [] ∧ fbelow l 0 = [] ∧ fadd l 0 (-1) = none ∧ fdrop l 0 = none ∧ fprune l 0 = none := by decide +kernel
theorem bad_at {l : List Int} (h : l ∈ bads) : Bad l := by
  obtain ⟨a, b, c, d, e, f, g, i⟩ := bad_all l h
  exact ⟨a, b, c, d, e, f, g, i⟩
/-- the five lie in a row: each of them is a forest that is none -/
def Row5 (w : World) (P : Nat) : Prop := P < w.heap.size ∧ ∀ j, j < 5 → ∃ A n l, w.cell? ⟨P, j, none⟩ = some (.slice A n n) ∧ n = l.length ∧ IntsAt w w.heap.size A l ∧ Bad l
theorem Row5.on {w w' : World} {P : Nat} (h : Row5 w P) (hb : Below w.heap.size w w') : Row5 w' P := by
  refine ⟨Nat.lt_of_lt_of_le h.1 hb.size, fun j hj => ?_⟩
  obtain ⟨A, n, l, h1, h2, h3, h4⟩ := h.2 j hj
  exact ⟨A, n, l, by rw [hb.cell (p := ⟨P, j, none⟩) h.1]; exact h1, h2, h3.on hb, h4⟩
theorem row5_new {w : World} {A B C D E : Option Addr} (ha : IntsAt w w.heap.size A [0]) (hb : IntsAt w w.heap.size B [1, 0]) (hc : IntsAt w w.heap.size C [-3]) (hd : IntsAt w w.heap.size D [2, -1]) (he : IntsAt w w.heap.size E [-2, 0]) (t : TypeId) :
    Row5 (w.alloc (.cells #[.slice A 1 1, .slice B 2 2, .slice C 1 1, .slice D 2 2, .slice E 2 2] t)) w.heap.size := by
  have k := below_alloc w (.cells #[.slice A 1 1, .slice B 2 2, .slice C 1 1, .slice D 2 2, .slice E 2 2] t)
  refine ⟨by simp, fun j hj => ?_⟩
  rcases (by omega : j = 0 ∨ j = 1 ∨ j = 2 ∨ j = 3 ∨ j = 4) with rfl | rfl | rfl | rfl | rfl
  · exact ⟨A, 1, [0], lit_cells w _ t rfl, rfl, ha.on k, bad_at (by decide)⟩
  · exact ⟨B, 2, [1, 0], lit_cells w _ t rfl, rfl, hb.on k, bad_at (by decide)⟩
  · exact ⟨C, 1, [-3], lit_cells w _ t rfl, rfl, hc.on k, bad_at (by decide)⟩
  · exact ⟨D, 2, [2, -1], lit_cells w _ t rfl, rfl, hd.on k, bad_at (by decide)⟩
  · exact ⟨E, 2, [-2, 0], lit_cells w _ t rfl, rfl, he.on k, bad_at (by decide)⟩
/-- one of them -/
structure El (w : World) (P i : Nat) (A : Option Addr) (n : Nat) (l : List Int) : Prop where
  lt : P < w.heap.size
  c : w.cell? ⟨P, i, none⟩ = some (.slice A n n)
  ints : IntsAt w w.heap.size A l
theorem El.on {w w' : World} {P i n : Nat} {A : Option Addr} {l : List Int} (h : El w P i A n l) (hb : Below w.heap.size w w') : El w' P i A n l :=
  ⟨Nat.lt_of_lt_of_le h.lt hb.size, by rw [hb.cell (p := ⟨P, i, none⟩) h.lt]; exact h.c, h.ints.on hb⟩
def KRel (W : World) (n : Nat) (k : Nat) (p : Value) (wr : World) : Prop := ∃ i : Nat, k + i = n ∧ p = .int .i64 i ∧ Below W.heap.size W wr
end Go.Proofs.Ytigljoafmefbnaa
