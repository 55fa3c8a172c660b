/-
  The walks of unsigned, Mul and Norm of package gauss: the exact product or false; the square or -1. No condition beyond words below 2^64.
-/
import Derived.Test.YtpbekngchhafcaaWc
namespace Go.Proofs.Ytpbekngchhafcaa
open Go.RowKit Flo

theorem run_add_zero (t : TypeId) {x y : Nat} {R I : Int} (hx : Is x R) (hy : Is y I) (P : Program) (w : World) :
    (binOp .add t (.complex .f64 x y) (.complex .f64 0 0)).run P w = .ok (.complex .f64 (F R) (F I)) w :=
  run_complex_sum w .add (.inl rfl) t .f64 _ _ _ _ _ _ (by
    unfold cSumBits floatBits
    simp only [add_zero_is hx, add_zero_is hy, Option.bind_some])

set_option maxHeartbeats 400000 in
theorem unsigned_is (x y : Nat) (R I : Int) (hx : Hid (Is x R)) (hy : Hid (Is y I)) (w : World) :
    Calls Try.prog 32 #[.complex .f64 x y] w fun e w' => e = .returned (.complex .f64 (F R) (F I)) ∧ w = w' := by
  have hop := run_add_zero 24 hx.out hy.out Try.prog w
  go_enter Try.func32, Try.ntmps32
  go_wp2
  go_ret
  exact ⟨rfl, rfl⟩

set_option maxHeartbeats 400000 in
theorem mul_run (a b c d : Int) (ha : Hid (inT a = true)) (hb : Hid (inT b = true)) (hc : Hid (inT c = true)) (hd : Hid (inT d = true))
    (na : Hid (inN a = true)) (nb : Hid (inN b = true)) (nc : Hid (inN c = true)) (nd : Hid (inN d = true))
    (x y : Nat) (R I : Int) (hm : Hid (cMulBits (F a) (F b) (F c) (F d) = some (x, y))) (hx : Hid (Is x R)) (hy : Hid (Is y I)) (w : World) :
    Calls Try.prog 13 #[.complex .f64 (F a) (F b), .complex .f64 (F c) (F d)] w fun e w' => e = .returned (ans R I) ∧ w = w' := by
  have hop := run_complex_mul (P := Try.prog) w 24 _ _ _ _ _ _ hm.out
  have we := Lib.hid (wh_is hx.out)
  have wf := Lib.hid (wh_is hy.out)
  unfold ans
  cases h1 : inT R <;> cases h2 : inT I
  all_goals
    have hwe : Hid (wh (F R) = _) := Lib.hid (we.out.trans h1)
    have hwf : Hid (wh (F I) = _) := Lib.hid (wf.out.trans h2)
    clear h1 h2
    go_enter Try.func13, Try.ntmps13
    go_wp2_with (first
      | (go_at_call 31; first
        | ((with_reducible refine (near_is a b ha hb true true na nb _).mono ?_); rintro e w' ⟨rfl, rfl⟩)
        | ((with_reducible refine (near_is c d hc hd true true nc nd _).mono ?_); rintro e w' ⟨rfl, rfl⟩))
      | (go_at_call 32; ((with_reducible refine (unsigned_is x y R I hx hy _).mono ?_); rintro e w' ⟨rfl, rfl⟩))
      | (go_at_call 25; ((with_reducible refine (whole_is _ _ (Lib.hid (F_lt R)) (Lib.hid (F_lt I)) _ _ hwe hwf _).mono ?_); rintro e w' ⟨rfl, rfl⟩)))
    go_ret2
    exact ⟨rfl, rfl⟩

/-- What 'Mul' answers of parts that may be multiplied. -/
theorem mul_yes (a b c d : Int) (na : Hid (inN a = true)) (nb : Hid (inN b = true)) (nc : Hid (inN c = true)) (nd : Hid (inN d = true)) (w : World) :
    Calls Try.prog 13 #[.complex .f64 (F a) (F b), .complex .f64 (F c) (F d)] w fun e w' => e = .returned (ans (a * c - b * d) (a * d + b * c)) ∧ w = w' := by
  have ga := inN_yes na.out
  have gb := inN_yes nb.out
  have gc := inN_yes nc.out
  have gd := inN_yes nd.out
  have A : a.natAbs ≤ 2 ^ 30 := by omega
  have B : b.natAbs ≤ 2 ^ 30 := by omega
  have C : c.natAbs ≤ 2 ^ 30 := by omega
  have D : d.natAbs ≤ 2 ^ 30 := by omega
  have m1 := mul_bound A C
  have m2 := mul_bound B D
  have m3 := mul_bound A D
  have m4 := mul_bound B C
  obtain ⟨x, y, R, I, hm, hx, hy, l1, u1, l2, u2, hex⟩ := cmul_is a b c d (by omega) (by omega) (by omega) (by omega) (by omega) (by omega) (by omega) (by omega)
  have key : ans R I = ans (a * c - b * d) (a * d + b * c) := by
    have small : (a * c - b * d).natAbs ≤ 2 ^ 41 → (a * d + b * c).natAbs ≤ 2 ^ 41 → R = a * c - b * d ∧ I = a * d + b * c := by
      intro g1 g2
      obtain ⟨q1, q2, q3, q4⟩ := four_small a b c d g1 g2
      exact hex q1 q2 q3 q4
    by_cases c1 : (inT R && inT I) = true
    · rw [Bool.and_eq_true, inT_iff, inT_iff] at c1
      unfold top at c1
      obtain ⟨e1, e2⟩ := small (by omega) (by omega)
      rw [e1, e2]
    · by_cases c2 : (inT (a * c - b * d) && inT (a * d + b * c)) = true
      · have c2' := c2
        rw [Bool.and_eq_true, inT_iff, inT_iff] at c2'
        unfold top at c2'
        obtain ⟨e1, e2⟩ := small (by omega) (by omega)
        rw [e1, e2]
      · unfold ans
        rw [if_neg c1, if_neg c2]
  rw [← key]
  exact mul_run a b c d (Lib.hid (inN_inT na.out)) (Lib.hid (inN_inT nb.out)) (Lib.hid (inN_inT nc.out)) (Lib.hid (inN_inT nd.out)) na nb nc nd x y R I (Lib.hid hm) (Lib.hid hx) (Lib.hid hy) w

/-- may it be multiplied? -/
noncomputable def nr (x : Nat) : Bool := @decide (∃ n : Int, inN n = true ∧ x = F n) (Classical.propDecidable _)
theorem nr_F {n : Int} (h : inT n = true) : nr (F n) = inN n := by
  unfold nr
  cases c : inN n
  · refine @decide_eq_false _ (Classical.propDecidable _) ?_
    rintro ⟨m, h1, h2⟩
    have e := F_inj (small_53 (inT_yes h).1 (inT_yes h).2) (by have := inN_yes h1; omega) h2
    rw [e, h1] at c
    cases c
  · exact @decide_eq_true _ (Classical.propDecidable _) ⟨n, c, rfl⟩
theorem nr_no {x : Nat} (h : wh x = false) : nr x = false := by
  unfold nr
  refine @decide_eq_false _ (Classical.propDecidable _) ?_
  rintro ⟨m, h1, rfl⟩
  have := inT_yes (inN_inT h1)
  rw [wh_F this.1 this.2] at h
  cases h
theorem of_nr {x : Nat} (h : nr x = true) : ∃ n : Int, inN n = true ∧ x = F n := by
  unfold nr at h
  exact @of_decide_eq_true _ (Classical.propDecidable _) h

theorem near_any (x y : Nat) (hx : Hid (x < 2 ^ 64)) (hy : Hid (y < 2 ^ 64)) (b : Bool) (hb : Hid ((nr x && nr y) = b)) (w : World) :
    Calls Try.prog 31 #[.complex .f64 x y] w fun e w' => e = .returned (.bool b) ∧ w = w' := by
  rw [← hb.out]
  cases h : (wh x && wh y)
  · have : (nr x && nr y) = false := by
      rcases Bool.and_eq_false_iff.1 h with h | h
      · rw [nr_no h]; rfl
      · rw [nr_no h, Bool.and_false]
    rw [this]
    exact near_no x y hx hy (Lib.hid h) w
  · rw [Bool.and_eq_true] at h
    obtain ⟨n, n1, n2, rfl⟩ := of_wh h.1
    obtain ⟨m, m1, m2, rfl⟩ := of_wh h.2
    rw [nr_F (inT_mk n1 n2), nr_F (inT_mk m1 m2)]
    exact near_is n m (Lib.hid (inT_mk n1 n2)) (Lib.hid (inT_mk m1 m2)) _ _ (Lib.hid rfl) (Lib.hid rfl) w

set_option maxHeartbeats 400000 in
theorem mul_no (a b c d : Nat) (ha : Hid (a < 2 ^ 64)) (hb : Hid (b < 2 ^ 64)) (hc : Hid (c < 2 ^ 64)) (hd : Hid (d < 2 ^ 64)) (h : Hid (((nr a && nr b) && (nr c && nr d)) = false)) (w : World) :
    Calls Try.prog 13 #[.complex .f64 a b, .complex .f64 c d] w fun e w' => e = .returned (.tuple #[.complex .f64 0 0, .bool false]) ∧ w = w' := by
  have h' := h.out
  cases h1 : (nr a && nr b)
  · have H1 := Lib.hid h1
    clear h1 h'
    go_enter Try.func13, Try.ntmps13
    go_wp2_with (go_at_call 31; ((with_reducible refine (near_any a b ha hb _ H1 _).mono ?_); rintro e w' ⟨rfl, rfl⟩))
    go_ret2
    exact ⟨rfl, rfl⟩
  · rw [h1, Bool.true_and] at h'
    have H1 := Lib.hid h1
    have H2 := Lib.hid h'
    clear h1 h'
    go_enter Try.func13, Try.ntmps13
    go_wp2_with (go_at_call 31; first | ((with_reducible refine (near_any a b ha hb _ H1 _).mono ?_); rintro e w' ⟨rfl, rfl⟩) | ((with_reducible refine (near_any c d hc hd _ H2 _).mono ?_); rintro e w' ⟨rfl, rfl⟩))
    go_ret2
    exact ⟨rfl, rfl⟩

set_option maxHeartbeats 400000 in
theorem norm_no (a b : Nat) (ha : Hid (a < 2 ^ 64)) (hb : Hid (b < 2 ^ 64)) (h : Hid ((nr a && nr b) = false)) (w : World) :
    Calls Try.prog 16 #[.complex .f64 a b] w fun e w' => e = .returned (.int .i64 (-1)) ∧ w = w' := by
  go_enter Try.func16, Try.ntmps16
  go_wp2_with (go_at_call 31; ((with_reducible refine (near_any a b ha hb _ h _).mono ?_); rintro e w' ⟨rfl, rfl⟩))
  go_ret
  exact ⟨rfl, rfl⟩

theorem sq_bound {a : Int} (h : inN a = true) : 0 ≤ a * a ∧ a * a ≤ 1152921504606846976 := by
  have g := inN_yes h
  have A : a.natAbs ≤ 2 ^ 30 := by omega
  have := mul_bound A A
  have p : 0 ≤ a * a := by rw [← Int.natAbs_mul_self]; exact Int.natCast_nonneg _
  generalize a * a = q at *
  omega

set_option maxHeartbeats 400000 in
theorem norm_yes (a b : Int) (na : Hid (inN a = true)) (nb : Hid (inN b = true)) (w : World) :
    Calls Try.prog 16 #[.complex .f64 (F a) (F b)] w fun e w' => e = .returned (.int .i64 (a * a + b * b)) ∧ w = w' := by
  have qa := sq_bound na.out
  have qb := sq_bound nb.out
  have TA := Lib.hid (inN_inT na.out)
  have TB := Lib.hid (inN_inT nb.out)
  generalize hqa : a * a = A at qa
  generalize hqb : b * b = B at qb
  obtain ⟨a1, a2⟩ := qa
  obtain ⟨b1, b2⟩ := qb
  go_enter Try.func16, Try.ntmps16
  go_wp2_with (first | (go_at_call 31; ((with_reducible refine (near_is a b TA TB true true na nb _).mono ?_); rintro e w' ⟨rfl, rfl⟩)) | (go_at_call 14; ((with_reducible refine (parts_yes a b TA TB _).mono ?_); rintro e w' ⟨rfl, rfl⟩)))
  go_ret
  exact ⟨rfl, rfl⟩
end Go.Proofs.Ytpbekngchhafcaa
