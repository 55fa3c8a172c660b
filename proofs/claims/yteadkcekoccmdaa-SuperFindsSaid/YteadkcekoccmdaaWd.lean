/-
  The walks of unsigned, Mul and Norm of package gauss: the exact product or false; the square or -1. No condition beyond words below 2^64.
-/
import Derived.Test.YteadkcekoccmdaaWc
namespace Go.Proofs.Yteadkcekoccmdaa
open Go.RowKit Flo

theorem run_add_zero (t : TypeId) {x y : Nat} {R I : Int} (hx : Is x R) (hy : Is y I) (P : Program) (w : World) :
    (binOp .add t (.complex .f64 x y) (.complex .f64 0 0)).run P w = .ok (.complex .f64 (F R) (F I)) w :=
  run_complex_sum w .add (.inl rfl) t .f64 _ _ _ _ _ _ (by
    unfold cSumBits floatBits
    simp only [add_zero_is hx, add_zero_is hy, Option.bind_some])

set_option maxHeartbeats 400000 in
theorem unsigned_is (x y : Nat) (R I : Int) (hx : Hid (Is x R)) (hy : Hid (Is y I)) (w : World) :
    Calls Try.prog 40 #[.complex .f64 x y] w fun e w' => e = .returned (.complex .f64 (F R) (F I)) ∧ w = w' := by
  have hop := run_add_zero 62 hx.out hy.out Try.prog w
  go_enter Try.func40, Try.ntmps40
  go_wp2
  go_ret
  exact ⟨rfl, rfl⟩

/-- may it be multiplied? -/
noncomputable def nr (x : Nat) : Bool := @decide (∃ n : Int, inN n = true ∧ x = F n) (Classical.propDecidable _)
theorem nr_F {n : Int} (h : inT n = true) : nr (F n) = inN n := by
  unfold nr
  cases c : inN n
  · refine @decide_eq_false _ (Classical.propDecidable _) ?_
    rintro ⟨m, h1, h2⟩
    have e := F_inj (small_53 (inT_yes h).1 (inT_yes h).2) (by have := inN_yes h1; omega) h2
    rw [e, h1] at c
    cases c
  · exact @decide_eq_true _ (Classical.propDecidable _) ⟨n, c, rfl⟩
theorem nr_no {x : Nat} (h : wh x = false) : nr x = false := by
  unfold nr
  refine @decide_eq_false _ (Classical.propDecidable _) ?_
  rintro ⟨m, h1, rfl⟩
  have := inT_yes (inN_inT h1)
  rw [wh_F this.1 this.2] at h
  cases h
theorem of_nr {x : Nat} (h : nr x = true) : ∃ n : Int, inN n = true ∧ x = F n := by
  unfold nr at h
  exact @of_decide_eq_true _ (Classical.propDecidable _) h

theorem sq_bound {a : Int} (h : inN a = true) : 0 ≤ a * a ∧ a * a ≤ 1152921504606846976 := by
  have g := inN_yes h
  have A : a.natAbs ≤ 2 ^ 30 := by omega
  have := mul_bound A A
  have p : 0 ≤ a * a := by rw [← Int.natAbs_mul_self]; exact Int.natCast_nonneg _
  generalize a * a = q at *
  omega

end Go.Proofs.Yteadkcekoccmdaa
