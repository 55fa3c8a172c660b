/-
  The walk of awake of reevelaw2: it answers true. No condition.
-/
import Derived.Test.YtigdhgikdknlmaaRe
namespace Go.Proofs.Ytigdhgikdknlmaa
open Go.RowKit

def zeros : List Int := [0, 0, 0, 0, 0, 0, 0, 0]
/-- the first line -/
def blank : Ln := ⟨zeros, zeros, false, false⟩
theorem blank_ok : blank.ok := ⟨rfl, rfl⟩

theorem At.new (w : World) (t : TypeId) (r : Ln) (h : r.ok) : At (w.alloc (.cells r.cells.toArray t)) w.heap.size 0 r := by
  have hg := heap_alloc_new w (.cells r.cells.toArray t)
  refine ⟨h, fun j v hv => ?_, fun j hj => ⟨?_, ?_⟩⟩
  · rw [Nat.zero_add, cell_of_row _ _ j _ _ _ hg]; simpa using hv
  · rw [Nat.zero_add, cell_of_row _ _ j _ _ _ hg]
    have : j < r.cells.length := by rw [Ln.cells_length h]; exact hj
    simp [this]
  · rw [Nat.zero_add]; exact frozen_of_row _ _ j _ _ hg

theorem At.all {w : World} {b : Nat} (h : At w b 0 blank) :
    (∀ j, j < 16 → w.cell? ⟨b, j, none⟩ = some (.int .u64 0)) ∧ w.cell? ⟨b, 16, none⟩ = some (.bool false) ∧ w.cell? ⟨b, 17, none⟩ = some (.bool false) := by
  have h1 := h.out
  have h2 := h.sent
  rw [Nat.zero_add] at h1 h2
  refine ⟨fun j hj => ?_, h1, h2⟩
  have z : ∀ k, k < 8 → zeros.getD k 0 = 0 := by decide
  rcases Nat.lt_or_ge j 8 with g | g
  · have := h.L g
    rw [Nat.zero_add] at this
    rw [this]; show some (Value.int .u64 (zeros.getD j 0)) = _; rw [z j g]
  · have := h.N (j := j - 8) (by omega)
    rw [show 0 + 8 + (j - 8) = j by omega] at this
    rw [this]; show some (Value.int .u64 (zeros.getD (j - 8) 0)) = _; rw [z _ (by omega)]

theorem awake_line : (blank.store 3 7).fall false = blank := rfl

set_option maxHeartbeats 1000000 in
theorem awake_any (w : World) :
    Calls Try.prog 7 #[] w fun e w' => e = .returned (.bool true) ∧ Below w.heap.size w w' := by
  have A0 := Lib.hid (At.new w 27 blank blank_ok)
  have e1 := eql25' zeros zeros rfl rfl
  simp only [beq_self_eq_true, zeros, wcells, List.map_cons, List.map_nil] at e1
  simp only [blank, Ln.cells, wcells, zeros, List.map_cons, List.map_nil, List.cons_append, List.nil_append] at A0
  have H1 := Lib.hid e1
  clear e1
  go_enter Try.func7, Try.ntmps7
  go_wp2_with fail
  refine (store_any _ 0 3 7 blank _ A0.out).mono ?_
  rintro e w1 ⟨rfl, h1⟩
  have B1 := Lib.hid (((Below.refl w.heap.size w).alloc (Nat.le_refl _) _).trans (h1.fr.below (Nat.le_refl _) (by simp)))
  have A1 := Lib.hid h1.here
  clear h1 A0
  go_wp2_with fail
  refine (load_any _ 0 3 _ _ A1.out).mono ?_
  rintro e w2 ⟨rfl, rfl⟩
  go_wp2_with fail
  refine (fall_any _ 0 false _ _ A1.out).mono ?_
  rintro e w3 ⟨rfl, h3⟩
  have B3 := Lib.hid (B1.out.trans (h3.fr.below (Nat.le_refl _) B1.out.size))
  rw [awake_line] at h3
  have A3 := Lib.hid h3.here
  obtain ⟨c, c16, c17⟩ := h3.here.all
  have c0 := c 0 (by omega)
  have c1 := c 1 (by omega)
  have c2 := c 2 (by omega)
  have c3 := c 3 (by omega)
  have c4 := c 4 (by omega)
  have c5 := c 5 (by omega)
  have c6 := c 6 (by omega)
  have c7 := c 7 (by omega)
  have c8 := c 8 (by omega)
  have c9 := c 9 (by omega)
  have c10 := c 10 (by omega)
  have c11 := c 11 (by omega)
  have c12 := c 12 (by omega)
  have c13 := c 13 (by omega)
  have c14 := c 14 (by omega)
  have c15 := c 15 (by omega)
  clear h3 A1 B1 c
  have e1 := H1.out
  clear H1
  have hst : inl 3 = true := rfl
  have hld : (blank.store 3 7).load 3 = 7 := rfl
  have hou : (blank.store 3 7).out = true := rfl
  rw [hst, hld, hou]
  clear hst hld hou
  go_wp2_with (go_at_call 13; refine (load_any _ 0 3 _ _ A3.out).mono ?_; rintro e w2 ⟨rfl, rfl⟩; rw [show blank.load 3 = 0 from rfl])
  go_ret
  exact ⟨rfl, B3.out⟩
end Go.Proofs.Ytigdhgikdknlmaa
