/-
  The walk of awake of reevelaw1: it answers true. No condition.
-/
import Derived.Test.YtpbekngchhafcaaWf
namespace Go.Proofs.Ytpbekngchhafcaa
open Go.RowKit Flo

theorem c_two : F 2 = 4611686018427387904 := by decide +kernel
theorem c_three : F 3 = 4613937818241073152 := by decide +kernel
theorem c_five : F 5 = 4617315517961601024 := by decide +kernel

theorem mul_awake (w : World) :
    Calls Try.prog 13 #[.complex .f64 4607182418800017408 4611686018427387904, .complex .f64 4613937818241073152 13830554455654793216] w
      fun e w' => e = .returned (.tuple #[.complex .f64 4617315517961601024 4617315517961601024, .bool true]) ∧ w = w' := by
  have h := mul_yes 1 2 3 (-1) (Lib.hid (by decide)) (Lib.hid (by decide)) (Lib.hid (by decide)) (Lib.hid (by decide)) w
  rw [c_one, c_two, c_three, c_minus_one] at h
  have e : ans (1 * 3 - 2 * -1) (1 * -1 + 2 * 3) = .tuple #[.complex .f64 4617315517961601024 4617315517961601024, .bool true] := by
    show ans 5 5 = _
    unfold ans
    rw [if_pos (by decide), c_five]
  rw [e] at h
  exact h

theorem whole_five (w : World) :
    Calls Try.prog 25 #[.complex .f64 4617315517961601024 4617315517961601024] w fun e w' => e = .returned (.bool true) ∧ w = w' := by
  rw [← c_five]
  have h := wh_F (n := 5) (by decide) (by decide)
  exact whole_is _ _ (Lib.hid (F_lt 5)) (Lib.hid (F_lt 5)) true true (Lib.hid h) (Lib.hid h) w

theorem spin_one (w : World) (b cap : Nat) (hc : w.cell? ⟨b, 0, none⟩ = some (.int .u64 1)) (hb : b < w.heap.size) :
    Calls Try.prog 18 #[.slice (some ⟨b, 0, none⟩) 1 cap] w fun e w' => e = .returned (.complex .f64 4607182418800017408 0) ∧ Below w.heap.size w w' := by
  have h := spin_any (some ⟨b, 0, none⟩) cap [1] w (by decide) (fun _ => ⟨_, rfl, hb, fun j hj => by
    have : j = 0 := by simp at hj; omega
    subst this; exact hc⟩) (fun x hx => by simp at hx; subst hx; exact ⟨by omega, by omega⟩)
  have e : spin [1] = (1, 0) := by decide
  rw [e] at h
  simp only [c_one, c_zero] at h
  exact h

set_option maxHeartbeats 400000 in
theorem awake_any (w : World) :
    Calls Try.prog 10 #[] w fun e w' => e = .returned (.bool true) ∧ Below w.heap.size w w' := by
  have q1 : (FloatKind.f64.format.order 4617315517961601024 4617315517961601024 == some .eq) = true := by decide +kernel
  have q2 : (FloatKind.f64.format.order 4607182418800017408 4607182418800017408 == some .eq) = true := by decide +kernel
  have q3 : (FloatKind.f64.format.order 0 0 == some .eq) = true := by decide +kernel
  go_enter Try.func10, Try.ntmps10
  go_wp2_with (first | (go_at_call 13; refine (mul_awake _).mono ?_; rintro e w' ⟨rfl, rfl⟩) | (go_at_call 18; refine (spin_one _ _ _ (by go_simp) (by simp)).mono ?_; rintro e w' ⟨rfl, hb⟩) | (go_at_call 25; refine (whole_five _).mono ?_; rintro e w' ⟨rfl, rfl⟩))

  go_ret
  exact ⟨rfl, ((Below.refl _ _).alloc (Nat.le_refl _) _).trans (hb.mono (by simp))⟩
end Go.Proofs.Ytpbekngchhafcaa
