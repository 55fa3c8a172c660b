/-
  The walks of math.Signbit, wholePart and Whole of package gauss: each answers what the word of the number says. Condition: a part is a word below 2^64.
-/
import Derived.Test.YteadkcekoccmdaaRows
import Derived.Test.YteadkcekoccmdaaFlo
import Derived.WalkKit
import Derived.WalkSpells
import Derived.WalkLawsBesides
import Derived.Lib.Hide
namespace Go.Proofs.Yteadkcekoccmdaa
open Go.RowKit Flo

@[go_sem] theorem call_bits (x : Nat) (w : World) : (callFunc 44 #[.float .f64 x]).run Try.prog w = .ok (.value (.int .u64 x)) w := by
  rw [run_callFunc_extern (e := Extern.MathFloatBits.float64bits) Try.func44 (by kernel_rfl) (by kernel_rfl) (by kernel_rfl) (by kernel_rfl)]
  rfl

theorem conv_int {x : Nat} {T : Int} (h1 : -top ≤ T) (h2 : T ≤ top) (h : (FloatKind.f64.decode x).toInt .zero = some T) (w : World) :
    (convert 68 2 (.float .f64 x)).run Try.prog w = .ok (.int .i64 T) w := by
  refine run_convert_float_int w 68 2 .f64 .i64 x T (by rw [Try.underlying68]; rfl) Try.underlying2 ?_
  unfold floatToIntVal
  rw [h]
  have : IntKind.i64.min ≤ T ∧ T ≤ IntKind.i64.max := by
    have a : IntKind.i64.min = -9223372036854775808 := by decide
    have b : IntKind.i64.max = 9223372036854775807 := by decide
    unfold top at h1 h2
    rw [a, b]; omega
  simp only [this, and_self, if_true]

theorem toInt_F {n : Int} (h1 : -top ≤ n) (h2 : n ≤ top) : (FloatKind.f64.decode (F n)).toInt .zero = some n := by
  rw [toInt_fin (val_F n (small_53 h1 h2)), Nat.mul_div_cancel _ U_pos, sgn_natAbs]

set_option maxHeartbeats 400000 in
theorem signbit_zero (w : World) :
    Calls Try.prog 43 #[.float .f64 0] w fun e w' => e = .returned (.bool false) ∧ w = w' := by
  go_enter Try.func43, Try.ntmps43
  go_wp2
  go_ret
  exact ⟨rfl, rfl⟩

set_option maxHeartbeats 400000 in
theorem signbit_minus (w : World) :
    Calls Try.prog 43 #[.float .f64 9223372036854775808] w fun e w' => e = .returned (.bool true) ∧ w = w' := by
  have hw : decide (wrap64 9223372036854775808 < 0) = true := by decide +kernel
  go_enter Try.func43, Try.ntmps43
  go_wp2
  go_ret
  exact ⟨rfl, rfl⟩

set_option maxHeartbeats 400000 in
theorem wp_out (x : Nat) (h : inRange x = false) (w : World) :
    Calls Try.prog 42 #[.float .f64 x] w fun e w' => e = .returned (.bool false) ∧ w = w' := by
  unfold inRange at h
  rw [c_top, c_bottom] at h
  cases h1 : (FloatKind.f64.format.order 14010698440749613056 x == some Ordering.lt || FloatKind.f64.format.order 14010698440749613056 x == some Ordering.eq) <;>
  cases h2 : (FloatKind.f64.format.order x 4787326403894837248 == some Ordering.lt || FloatKind.f64.format.order x 4787326403894837248 == some Ordering.eq)
  all_goals rw [h1, h2] at h
  all_goals first | (cases h; done) | skip
  all_goals go_enter Try.func42, Try.ntmps42
  all_goals go_wp2
  all_goals go_ret
  all_goals exact ⟨rfl, rfl⟩

theorem range_facts {x : Nat} (h : inRange x = true) :
    (FloatKind.f64.format.order 14010698440749613056 x == some Ordering.lt || FloatKind.f64.format.order 14010698440749613056 x == some Ordering.eq) = true ∧
    (FloatKind.f64.format.order x 4787326403894837248 == some Ordering.lt || FloatKind.f64.format.order x 4787326403894837248 == some Ordering.eq) = true := by
  unfold inRange at h
  rw [c_top, c_bottom] at h
  exact Bool.and_eq_true_iff.1 h

set_option maxHeartbeats 400000 in
theorem wp_not (x : Nat) (T : Int) (h : inRange x = true) (h1 : -top ≤ T) (h2 : T ≤ top) (hT : (FloatKind.f64.decode x).toInt .zero = some T)
    (hne : (FloatKind.f64.format.order (F T) x == some .eq) = false) (w : World) :
    Calls Try.prog 42 #[.float .f64 x] w fun e w' => e = .returned (.bool false) ∧ w = w' := by
  obtain ⟨g1, g2⟩ := range_facts h
  have hc := conv_int h1 h2 hT
  have hfo : floatOfInt FloatKind.f64 T = F T := rfl
  clear h h1 h2 hT
  go_enter Try.func42, Try.ntmps42
  go_wp2
  go_ret
  exact ⟨rfl, rfl⟩

set_option maxHeartbeats 400000 in
theorem wp_minus (w : World) :
    Calls Try.prog 42 #[.float .f64 9223372036854775808] w fun e w' => e = .returned (.bool false) ∧ w = w' := by
  have h : inRange 9223372036854775808 = true := by decide +kernel
  obtain ⟨g1, g2⟩ := range_facts h
  have hc := conv_int (x := 9223372036854775808) (T := 0) (by decide) (by decide) (by decide +kernel)
  have hfo : floatOfInt FloatKind.f64 0 = 0 := by decide +kernel
  have he : (FloatKind.f64.format.order 0 9223372036854775808 == some .eq) = true := by decide +kernel
  have he2 : (FloatKind.f64.format.order 9223372036854775808 0 == some .eq) = true := by decide +kernel
  clear h
  go_enter Try.func42, Try.ntmps42
  go_wp2_with (go_at_call 43; refine (signbit_minus _).mono ?_; rintro e w' ⟨rfl, rfl⟩)
  go_ret
  exact ⟨rfl, rfl⟩

set_option maxHeartbeats 400000 in
theorem wp_zero (w : World) :
    Calls Try.prog 42 #[.float .f64 0] w fun e w' => e = .returned (.bool true) ∧ w = w' := by
  have h : inRange 0 = true := by decide +kernel
  obtain ⟨g1, g2⟩ := range_facts h
  have hc := conv_int (x := 0) (T := 0) (by decide) (by decide) (by decide +kernel)
  have hfo : floatOfInt FloatKind.f64 0 = 0 := by decide +kernel
  have he : (FloatKind.f64.format.order 0 0 == some .eq) = true := by decide +kernel
  clear h
  go_enter Try.func42, Try.ntmps42
  go_wp2_with (go_at_call 43; refine (signbit_zero _).mono ?_; rintro e w' ⟨rfl, rfl⟩)
  go_ret
  exact ⟨rfl, rfl⟩

set_option maxHeartbeats 400000 in
theorem wp_yes (n : Int) (h1 : -top ≤ n) (h2 : n ≤ top) (w : World) :
    Calls Try.prog 42 #[.float .f64 (F n)] w fun e w' => e = .returned (.bool true) ∧ w = w' := by
  by_cases h0 : n = 0
  · subst h0; rw [c_zero]; exact wp_zero w
  obtain ⟨g1, g2⟩ := range_facts (inRange_F h1 h2)
  have hc := conv_int h1 h2 (toInt_F h1 h2)
  have hfo : floatOfInt FloatKind.f64 n = F n := rfl
  have he : (FloatKind.f64.format.order (F n) (F n) == some .eq) = true := by rw [eq_F (small_53 h1 h2) (small_53 h1 h2)]; simp
  have hz : (FloatKind.f64.format.order (F n) 0 == some .eq) = false := by
    have := eq_F (small_53 h1 h2) (b := 0) (by decide)
    rw [c_zero] at this
    rw [this]; simp [h0]
  clear h1 h2 h0
  generalize F n = x at *
  go_enter Try.func42, Try.ntmps42
  go_wp2
  go_ret
  exact ⟨rfl, rfl⟩

theorem wp_any (x : Nat) (hx : x < 2 ^ 64) (w : World) :
    Calls Try.prog 42 #[.float .f64 x] w fun e w' => e = .returned (.bool (wh x)) ∧ w = w' := by
  cases h : inRange x
  · rw [wh_no (not_whole_of_range h)]; exact wp_out x h w
  · obtain ⟨T, h1, h2, hT, hc⟩ := cases_range hx h
    rcases hc with rfl | ⟨_, rfl⟩ | ⟨hn, hne⟩
    · rw [wh_F h1 h2]; exact wp_yes T h1 h2 w
    · rw [wh_no not_whole_minus]; exact wp_minus w
    · rw [wh_no hn]; exact wp_not x T h h1 h2 hT hne w

theorem wp_is (x : Nat) (hx : Hid (x < 2 ^ 64)) (b : Bool) (hb : Hid (wh x = b)) (w : World) :
    Calls Try.prog 42 #[.float .f64 x] w fun e w' => e = .returned (.bool b) ∧ w = w' := by
  rw [← hb.out]; exact wp_any x hx.out w

set_option maxHeartbeats 400000 in
theorem whole_is (x y : Nat) (hx : Hid (x < 2 ^ 64)) (hy : Hid (y < 2 ^ 64)) (a b : Bool) (ha : Hid (wh x = a)) (hb : Hid (wh y = b)) (w : World) :
    Calls Try.prog 39 #[.complex .f64 x y] w fun e w' => e = .returned (.bool (a && b)) ∧ w = w' := by
  cases a <;> cases b
  all_goals go_enter Try.func39, Try.ntmps39
  all_goals go_wp2_with (go_at_call 42; first | ((with_reducible refine (wp_is x hx _ ha _).mono ?_); rintro e w' ⟨rfl, rfl⟩) | ((with_reducible refine (wp_is y hy _ hb _).mono ?_); rintro e w' ⟨rfl, rfl⟩))
  all_goals go_ret
  all_goals exact ⟨rfl, rfl⟩

theorem whole_any (x y : Nat) (hx : x < 2 ^ 64) (hy : y < 2 ^ 64) (w : World) :
    Calls Try.prog 39 #[.complex .f64 x y] w fun e w' => e = .returned (.bool (wh x && wh y)) ∧ w = w' :=
  whole_is x y (Lib.hid hx) (Lib.hid hy) _ _ (Lib.hid rfl) (Lib.hid rfl) w
end Go.Proofs.Yteadkcekoccmdaa
