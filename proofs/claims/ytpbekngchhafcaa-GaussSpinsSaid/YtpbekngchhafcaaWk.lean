/-
  The walks of the document's own answer in package reeveref1: rest, Sum, Spin, part, Parts, Of, small, Add, Mul, Turn, Norm, Word. Condition: a part is a word below 2^64; a list lies in memory.
-/
import Derived.Test.YtpbekngchhafcaaWi
namespace Go.Proofs.Ytpbekngchhafcaa
open Go.RowKit Flo

theorem compare_swap_int (a b : Int) : compare b a = (compare a b).swap := by
  simp only [compare, compareOfLessAndEq]
  by_cases h1 : a < b
  · have h2 : ¬ b < a := by omega
    have h3 : ¬ b = a := by omega
    simp [h1, h2, h3, Ordering.swap]
  · by_cases h2 : a = b
    · subst h2; simp [Ordering.swap]
    · have h3 : b < a := by omega
      simp [h1, h2, h3, Ordering.swap]

theorem order_flip {x c : Nat} {s : Bool} {u : Nat} (hc : Fin c s u) : (D.order x c == some .gt || D.order x c == some .eq) = (D.order c x == some .lt || D.order c x == some .eq) := by
  cases hr : D.read x with
  | nan n f =>
    have e1 : D.order x c = none := by unfold Ieee.Format.order; rw [hr]; rfl
    have e2 : D.order c x = none := by
      obtain ⟨m, e, g, _, _⟩ := hc
      unfold Ieee.Format.order; rw [hr, g]; rfl
    rw [e1, e2]; rfl
  | infinity s =>
    obtain ⟨m, e, g, _, _⟩ := hc
    have e1 : D.order x c = some (if s then .lt else .gt) := by unfold Ieee.Format.order; rw [hr, g]; rfl
    have e2 : D.order c x = some (if s then .gt else .lt) := by unfold Ieee.Format.order; rw [hr, g]; rfl
    rw [e1, e2]; cases s <;> rfl
  | number t m e =>
    have hf := fin_of_read hr
    rw [order_fin hf hc, order_fin hc hf, compare_swap_int (sgn t _) (sgn s u)]
    generalize compare (sgn t (m * 2 ^ (e + 1074).toNat)) (sgn s u) = o
    cases o <;> rfl

theorem ref_facts {x : Nat} {b : Bool} (h : inRange x = b) :
    ((FloatKind.f64.format.order x 14010698440749613056 == some Ordering.gt || FloatKind.f64.format.order x 14010698440749613056 == some Ordering.eq) &&
     (FloatKind.f64.format.order x 4787326403894837248 == some Ordering.lt || FloatKind.f64.format.order x 4787326403894837248 == some Ordering.eq)) = b := by
  unfold inRange at h
  have := order_flip (x := x) bottom_fin
  rw [c_bottom] at this
  rw [c_top, c_bottom] at h
  rw [this]; exact h

set_option maxHeartbeats 400000 in
theorem rp_out (x : Nat) (h : inRange x = false) (w : World) :
    Calls Try.prog 35 #[.float .f64 x] w fun e w' => e = .returned (.tuple #[.int .i64 0, .bool false]) ∧ w = w' := by
  have h' := ref_facts h
  clear h
  cases h1 : (FloatKind.f64.format.order x 14010698440749613056 == some Ordering.gt || FloatKind.f64.format.order x 14010698440749613056 == some Ordering.eq) <;>
  cases h2 : (FloatKind.f64.format.order x 4787326403894837248 == some Ordering.lt || FloatKind.f64.format.order x 4787326403894837248 == some Ordering.eq)
  all_goals rw [h1, h2] at h'
  all_goals first | (cases h'; done) | skip
  all_goals go_enter Try.func35, Try.ntmps35
  all_goals go_wp2
  all_goals go_ret2
  all_goals exact ⟨rfl, rfl⟩

theorem bne_of {o : Option Ordering} {b : Bool} (h : (o == some Ordering.eq) = b) : (o != some Ordering.eq) = !b := by rw [bne, h]

set_option maxHeartbeats 400000 in
theorem rp_not (x : Nat) (T : Int) (h : inRange x = true) (h1 : -top ≤ T) (h2 : T ≤ top) (hT : (FloatKind.f64.decode x).toInt .zero = some T)
    (hne : (FloatKind.f64.format.order (F T) x == some .eq) = false) (w : World) :
    Calls Try.prog 35 #[.float .f64 x] w fun e w' => e = .returned (.tuple #[.int .i64 0, .bool false]) ∧ w = w' := by
  have h' := ref_facts h
  rw [Bool.and_eq_true] at h'
  obtain ⟨g1, g2⟩ := h'
  have hc := conv_int h1 h2 hT
  have hfo : floatOfInt FloatKind.f64 T = F T := rfl
  have hn := bne_of hne
  rw [Bool.not_false] at hn
  clear h h1 h2 hT hne
  go_enter Try.func35, Try.ntmps35
  go_wp2
  go_ret2
  exact ⟨rfl, rfl⟩

set_option maxHeartbeats 400000 in
theorem rp_minus (w : World) :
    Calls Try.prog 35 #[.float .f64 9223372036854775808] w fun e w' => e = .returned (.tuple #[.int .i64 0, .bool false]) ∧ w = w' := by
  have h : inRange 9223372036854775808 = true := by decide +kernel
  have h' := ref_facts h
  rw [Bool.and_eq_true] at h'
  obtain ⟨g1, g2⟩ := h'
  have hc := conv_int (x := 9223372036854775808) (T := 0) (by decide) (by decide) (by decide +kernel)
  have hfo : floatOfInt FloatKind.f64 0 = 0 := by decide +kernel
  have he : (FloatKind.f64.format.order 0 9223372036854775808 != some .eq) = false := by decide +kernel
  have hq : ∀ w, (binOp .quo 23 (.float .f64 4607182418800017408) (.float .f64 9223372036854775808)).run Try.prog w = .ok (.float .f64 18442240474082181120) w :=
    fun w => run_float_arith w .quo 23 .f64 _ _ _ (by decide +kernel)
  have hl : (FloatKind.f64.format.order 18442240474082181120 0 == some .lt) = true := by decide +kernel
  clear h
  go_enter Try.func35, Try.ntmps35
  go_wp2
  go_ret2
  exact ⟨rfl, rfl⟩

set_option maxHeartbeats 400000 in
theorem rp_zero (w : World) :
    Calls Try.prog 35 #[.float .f64 0] w fun e w' => e = .returned (.tuple #[.int .i64 0, .bool true]) ∧ w = w' := by
  have h : inRange 0 = true := by decide +kernel
  have h' := ref_facts h
  rw [Bool.and_eq_true] at h'
  obtain ⟨g1, g2⟩ := h'
  have hc := conv_int (x := 0) (T := 0) (by decide) (by decide) (by decide +kernel)
  have hfo : floatOfInt FloatKind.f64 0 = 0 := by decide +kernel
  have he : (FloatKind.f64.format.order 0 0 != some .eq) = false := by decide +kernel
  have hq := one_over Try.prog
  have hl : (FloatKind.f64.format.order 9218868437227405312 0 == some .lt) = false := by decide +kernel
  clear h
  go_enter Try.func35, Try.ntmps35
  go_wp2
  go_ret2
  exact ⟨rfl, rfl⟩

set_option maxHeartbeats 400000 in
theorem rp_yes (n : Int) (h : Hid (inT n = true)) (w : World) :
    Calls Try.prog 35 #[.float .f64 (F n)] w fun e w' => e = .returned (.tuple #[.int .i64 n, .bool true]) ∧ w = w' := by
  by_cases h0 : n = 0
  · subst h0; rw [c_zero]; exact rp_zero w
  obtain ⟨h1, h2⟩ := inT_yes h.out
  have h' := ref_facts (inRange_F h1 h2)
  rw [Bool.and_eq_true] at h'
  obtain ⟨g1, g2⟩ := h'
  have hc := conv_int h1 h2 (toInt_F h1 h2)
  have hfo : floatOfInt FloatKind.f64 n = F n := rfl
  have he := bne_of (eq_self (nA h.out))
  rw [Bool.not_true] at he
  have hz : ((n : Int) == 0) = false := by simp [h0]
  clear h1 h2 h0 h
  generalize F n = x at *
  go_enter Try.func35, Try.ntmps35
  go_wp2
  go_ret2
  exact ⟨rfl, rfl⟩

theorem rp_no (x : Nat) (hx : Hid (x < 2 ^ 64)) (hw : Hid (wh x = false)) (w : World) :
    Calls Try.prog 35 #[.float .f64 x] w fun e w' => e = .returned (.tuple #[.int .i64 0, .bool false]) ∧ w = w' := by
  cases h : inRange x
  · exact rp_out x h w
  · obtain ⟨T, h1, h2, hT, hc⟩ := cases_range hx.out h
    rcases hc with rfl | ⟨_, rfl⟩ | ⟨hn, hne⟩
    · have := hw.out; rw [wh_F h1 h2] at this; cases this
    · exact rp_minus w
    · exact rp_not x T h h1 h2 hT hne w

set_option maxHeartbeats 400000 in
theorem rparts_yes (a b : Int) (ha : Hid (inT a = true)) (hb : Hid (inT b = true)) (w : World) :
    Calls Try.prog 22 #[.complex .f64 (F a) (F b)] w fun e w' => e = .returned (.tuple #[.int .i64 a, .int .i64 b, .bool true]) ∧ w = w' := by
  go_enter Try.func22, Try.ntmps22
  go_wp2_with (go_at_call 35; first | ((with_reducible refine (rp_yes a ha _).mono ?_); rintro e w' ⟨rfl, rfl⟩) | ((with_reducible refine (rp_yes b hb _).mono ?_); rintro e w' ⟨rfl, rfl⟩))
  go_ret3
  exact ⟨rfl, rfl⟩

theorem rp_any (x : Nat) (hx : Hid (x < 2 ^ 64)) : ∃ (n : Int) (b : Bool), b = wh x ∧ (b = true → inT n = true ∧ x = F n) ∧ ∀ w, Calls Try.prog 35 #[.float .f64 x] w fun e w' => e = .returned (.tuple #[.int .i64 n, .bool b]) ∧ w = w' := by
  cases h : wh x
  · exact ⟨0, false, rfl, (fun h => by cases h), rp_no x hx (Lib.hid h)⟩
  · obtain ⟨n, h1, h2, rfl⟩ := of_wh h
    exact ⟨n, true, rfl, fun _ => ⟨inT_mk h1 h2, rfl⟩, rp_yes n (Lib.hid (inT_mk h1 h2))⟩

theorem use_rp (x : Nat) (n : Int) (b : Bool) (h : Hid (∀ w, Calls Try.prog 35 #[.float .f64 x] w fun e w' => e = .returned (.tuple #[.int .i64 n, .bool b]) ∧ w = w')) (w : World) :
    Calls Try.prog 35 #[.float .f64 x] w fun e w' => e = .returned (.tuple #[.int .i64 n, .bool b]) ∧ w = w' := h.out w

set_option maxHeartbeats 400000 in
theorem rparts_no (x y : Nat) (hx : Hid (x < 2 ^ 64)) (hy : Hid (y < 2 ^ 64)) (h : Hid ((wh x && wh y) = false)) (w : World) :
    Calls Try.prog 22 #[.complex .f64 x y] w fun e w' => e = .returned (.tuple #[.int .i64 0, .int .i64 0, .bool false]) ∧ w = w' := by
  obtain ⟨n, b, e1, -, c1⟩ := rp_any x hx
  obtain ⟨m, c, e2, -, c2⟩ := rp_any y hy
  have h' := h.out
  rw [← e1, ← e2] at h'
  have C1 := Lib.hid c1
  have C2 := Lib.hid c2
  clear e1 e2 c1 c2
  cases b <;> cases c
  all_goals first | (cases h'; done) | skip
  all_goals clear h'
  all_goals go_enter Try.func22, Try.ntmps22
  all_goals go_wp2_with (go_at_call 35; first | ((with_reducible refine (use_rp x _ _ C1 _).mono ?_); rintro e w' ⟨rfl, rfl⟩) | ((with_reducible refine (use_rp y _ _ C2 _).mono ?_); rintro e w' ⟨rfl, rfl⟩))
  all_goals go_ret3
  all_goals exact ⟨rfl, rfl⟩

set_option maxHeartbeats 400000 in
theorem rof_any (p q : Int) (w : World) :
    Calls Try.prog 21 #[.int .i64 p, .int .i64 q] w fun e w' => e = .returned (ans p q) ∧ w = w' := by
  have f1 := fo p
  have f2 := fo q
  have hc : (inT p && inT q) = false → p < -1099511627776 ∨ (-1099511627776 ≤ p ∧ 1099511627776 < p) ∨ (-1099511627776 ≤ p ∧ p ≤ 1099511627776 ∧ q < -1099511627776) ∨ (-1099511627776 ≤ p ∧ p ≤ 1099511627776 ∧ -1099511627776 ≤ q ∧ 1099511627776 < q) := by
    intro h
    unfold inT at h
    simp only [Bool.and_eq_false_iff, decide_eq_false_iff_not] at h
    omega
  unfold ans
  cases h : (inT p && inT q)
  · have hc' := hc h
    clear hc h
    rcases hc' with h1 | ⟨h1, h2⟩ | ⟨h1, h2, h3⟩ | ⟨h1, h2, h3, h4⟩
    all_goals go_enter Try.func21, Try.ntmps21
    all_goals go_wp2
    all_goals go_ret2
    all_goals exact ⟨rfl, rfl⟩
  · clear hc
    rw [Bool.and_eq_true] at h
    have g1 := inT_yes h.1
    have g2 := inT_yes h.2
    unfold top at g1 g2
    obtain ⟨a0, a1⟩ := g1
    obtain ⟨b0, b1⟩ := g2
    clear h
    go_enter Try.func21, Try.ntmps21
    go_wp2
    go_ret2
    exact ⟨rfl, rfl⟩
end Go.Proofs.Ytpbekngchhafcaa
