/-
  The walks of the law's own and of the reference's GoodCap, CapWord, Cut, Stamp and CapLess. No condition.
-/
import Derived.Test.YtlhdpmkakmkknaaDoorCg
namespace Go.Proofs.YtlhdpmkakmkknaaDoor
open Go.RowKit

set_option maxHeartbeats 2000000 in
theorem own_any (c : Cp) (w : World) : Calls Tryd.prog 18 #[c.val] w fun e w' => e = .returned c.val ∧ Below w.heap.size w w' := by
  obtain ⟨a, b, d, f⟩ := c
  have q := Fr.also (W := w) (w := w.alloc (.cells #[.int .i64 a, .int .i64 b, .int .i64 d, .int .i64 f] 24)) (below_alloc _ _) a b d f 39
  rw [show (w.alloc (.cells #[.int .i64 a, .int .i64 b, .int .i64 d, .int .i64 f] 24)).heap.size = w.heap.size + 1 by simp] at q
  have HQ := Lib.hid q
  clear q
  show Calls Tryd.prog 18 #[.agg #[.int .i64 a, .int .i64 b, .int .i64 d, .int .i64 f]] w _
  go_enter Tryd.func18, Tryd.ntmps18
  go_wp2_with fail
  have e0 := HQ.out.c0
  have e1 := HQ.out.c1
  have e2 := HQ.out.c2
  have e3 := HQ.out.c3
  refine bodyPost_ret (by simp [results, Tryd.results18, go_sem, e0, e1, e2, e3]; rfl) rfl ?_
  exact ⟨rfl, HQ.out.old⟩

theorem good_off {a b d f : Int} (h : ¬ (a = 0 ∧ b = 0 ∧ d = 0 ∧ f = 0)) (h2 : ¬ (1 ≤ a ∧ a ≤ 5 ∧ 0 ≤ b ∧ b < 48 ∧ 0 ≤ d ∧ d ≤ 7 ∧ 0 ≤ f ∧ f ≤ 65535 ∧ (f = 0 ∨ a = 3 ∨ a = 4))) : Cp.good ⟨a, b, d, f⟩ = false := by
  rcases hg : Cp.good ⟨a, b, d, f⟩ with _ | _
  · rfl
  · rcases good_iff_all.1 hg with q | q
    · exact absurd q h
    · exact absurd q h2
set_option maxHeartbeats 4000000 in
theorem rcgood_any (c : Cp) (w : World) : Calls Tryd.prog 21 #[c.val] w fun e w' => e = .returned (.bool c.good) ∧ Below w.heap.size w w' := by
  obtain ⟨a, b, d, f⟩ := c
  have heq : ∀ w, (Op.equalIn 10000 39 (.agg #[.int .i64 a, .int .i64 b, .int .i64 d, .int .i64 f]) (.agg #[.int .i64 0, .int .i64 0, .int .i64 0, .int .i64 0])).run Tryd.prog w = .ok (Cp.non ⟨a, b, d, f⟩) w := fun w => eq39 ⟨a, b, d, f⟩ .none w
  show Calls Tryd.prog 21 #[.agg #[.int .i64 a, .int .i64 b, .int .i64 d, .int .i64 f]] w _
  rcases hx : Cp.non ⟨a, b, d, f⟩ with _ | _
  · have h0 : ¬ (a = 0 ∧ b = 0 ∧ d = 0 ∧ f = 0) := by
      rintro ⟨rfl, rfl, rfl, rfl⟩
      cases hx
    rw [hx] at heq
    clear hx
    by_cases ha0 : 1 ≤ a
    rotate_left
    · rw [good_off h0 (by omega)]
      clear h0
      go_enter Tryd.func21, Tryd.ntmps21
      go_wp2
      go_ret
      exact ⟨by simp <;> omega, below_alloc _ _⟩
    by_cases ha1 : a ≤ 5
    rotate_left
    · rw [good_off h0 (by omega)]
      clear h0
      go_enter Tryd.func21, Tryd.ntmps21
      go_wp2
      go_ret
      exact ⟨by simp <;> omega, below_alloc _ _⟩
    by_cases hb0 : 0 ≤ b
    rotate_left
    · rw [good_off h0 (by omega)]
      clear h0
      go_enter Tryd.func21, Tryd.ntmps21
      go_wp2
      go_ret
      exact ⟨by simp <;> omega, below_alloc _ _⟩
    by_cases hb1 : b < 48
    rotate_left
    · rw [good_off h0 (by omega)]
      clear h0
      go_enter Tryd.func21, Tryd.ntmps21
      go_wp2
      go_ret
      exact ⟨by simp <;> omega, below_alloc _ _⟩
    by_cases hd0 : 0 ≤ d
    rotate_left
    · rw [good_off h0 (by omega)]
      clear h0
      go_enter Tryd.func21, Tryd.ntmps21
      go_wp2
      go_ret
      exact ⟨by simp <;> omega, below_alloc _ _⟩
    by_cases hd1 : d ≤ 7
    rotate_left
    · rw [good_off h0 (by omega)]
      clear h0
      go_enter Tryd.func21, Tryd.ntmps21
      go_wp2
      go_ret
      exact ⟨by simp <;> omega, below_alloc _ _⟩
    by_cases hf0 : 0 ≤ f
    rotate_left
    · rw [good_off h0 (by omega)]
      clear h0
      go_enter Tryd.func21, Tryd.ntmps21
      go_wp2
      go_ret
      exact ⟨by simp <;> omega, below_alloc _ _⟩
    by_cases hf1 : f < 65536
    rotate_left
    · rw [good_off h0 (by omega)]
      clear h0
      go_enter Tryd.func21, Tryd.ntmps21
      go_wp2
      go_ret
      exact ⟨by simp <;> omega, below_alloc _ _⟩
    by_cases hz : f = 0
    · rw [good_iff_all.2 (.inr (by omega))]
      clear h0
      go_enter Tryd.func21, Tryd.ntmps21
      go_wp2
      go_ret
      exact ⟨by simp <;> omega, below_alloc _ _⟩
    by_cases ht : a = 3
    · rw [good_iff_all.2 (.inr (by omega))]
      clear h0
      go_enter Tryd.func21, Tryd.ntmps21
      go_wp2
      go_ret
      exact ⟨by simp <;> omega, below_alloc _ _⟩
    by_cases hu : a = 4
    · rw [good_iff_all.2 (.inr (by omega))]
      clear h0
      go_enter Tryd.func21, Tryd.ntmps21
      go_wp2
      go_ret
      exact ⟨by simp <;> omega, below_alloc _ _⟩
    rw [good_off h0 (by omega)]
    clear h0
    go_enter Tryd.func21, Tryd.ntmps21
    go_wp2
    go_ret
    exact ⟨by simp <;> omega, below_alloc _ _⟩
  · have e := non_eq hx
    rw [hx] at heq
    unfold Cp.none at e
    injection e with e0 e1 e2 e3
    subst e0 e1 e2 e3
    go_enter Tryd.func21, Tryd.ntmps21
    go_wp2
    go_ret
    exact ⟨rfl, below_alloc _ _⟩
end Go.Proofs.YtlhdpmkakmkknaaDoor
