/-
  The walks of Add, small, Mul, Norm, Turn, Word, rest, Sum and Spin of package reeveref1, the document's own answer. Condition: a part is a word below 2^64; a list lies in memory.
-/
import Derived.Test.YtpbekngchhafcaaWk
namespace Go.Proofs.Ytpbekngchhafcaa
open Go.RowKit Flo

theorem rof_yes (p q : Int) (hp : Hid (inT p = true)) (hq : Hid (inT q = true)) (w : World) :
    Calls Try.prog 21 #[.int .i64 p, .int .i64 q] w fun e w' => e = .returned (.tuple #[.complex .f64 (F p) (F q), .bool true]) ∧ w = w' := by
  have h := rof_any p q w
  unfold ans at h
  rw [if_pos (by rw [hp.out, hq.out]; rfl)] at h
  exact h
theorem rof_no (p q : Int) (h : Hid ((inT p && inT q) = false)) (w : World) :
    Calls Try.prog 21 #[.int .i64 p, .int .i64 q] w fun e w' => e = .returned (.tuple #[.complex .f64 0 0, .bool false]) ∧ w = w' := by
  have h' := rof_any p q w
  unfold ans at h'
  rw [if_neg (by rw [h.out]; decide)] at h'
  exact h'

set_option maxHeartbeats 400000 in
theorem radd_yes (a b c d p q : Int) (ha : Hid (inT a = true)) (hb : Hid (inT b = true)) (hc : Hid (inT c = true)) (hd : Hid (inT d = true)) (hp : a + c = p) (hq : b + d = q) (w : World) :
    Calls Try.prog 19 #[.complex .f64 (F a) (F b), .complex .f64 (F c) (F d)] w fun e w' => e = .returned (ans p q) ∧ w = w' := by
  have ga := inT_yes ha.out
  have gb := inT_yes hb.out
  have gc := inT_yes hc.out
  have gd := inT_yes hd.out
  unfold top at ga gb gc gd
  have p1 : -2199023255552 ≤ p ∧ p ≤ 2199023255552 := by omega
  have q1 : -2199023255552 ≤ q ∧ q ≤ 2199023255552 := by omega
  obtain ⟨p1, p2⟩ := p1
  obtain ⟨q1, q2⟩ := q1
  clear ga gb gc gd
  unfold ans
  cases h : (inT p && inT q)
  · have H := Lib.hid h
    clear h
    go_enter Try.func19, Try.ntmps19
    go_wp2_with (first | (go_at_call 22; first | ((with_reducible refine (rparts_yes a b ha hb _).mono ?_); rintro e w' ⟨rfl, rfl⟩) | ((with_reducible refine (rparts_yes c d hc hd _).mono ?_); rintro e w' ⟨rfl, rfl⟩)) | (go_at_call 21; ((with_reducible refine (rof_no p q H _).mono ?_); rintro e w' ⟨rfl, rfl⟩)))
    go_ret2
    exact ⟨rfl, rfl⟩
  · rw [Bool.and_eq_true] at h
    have H := Lib.hid h.1
    have H2 := Lib.hid h.2
    clear h
    go_enter Try.func19, Try.ntmps19
    go_wp2_with (first | (go_at_call 22; first | ((with_reducible refine (rparts_yes a b ha hb _).mono ?_); rintro e w' ⟨rfl, rfl⟩) | ((with_reducible refine (rparts_yes c d hc hd _).mono ?_); rintro e w' ⟨rfl, rfl⟩)) | (go_at_call 21; ((with_reducible refine (rof_yes p q H H2 _).mono ?_); rintro e w' ⟨rfl, rfl⟩)))
    go_ret2
    exact ⟨rfl, rfl⟩

/-- what 'Parts' tells -/
theorem rparts_any (x y : Nat) (hx : Hid (x < 2 ^ 64)) (hy : Hid (y < 2 ^ 64)) :
    ∃ (a b : Int) (k : Bool), k = (wh x && wh y) ∧ (k = true → inT a = true ∧ inT b = true ∧ x = F a ∧ y = F b) ∧ ∀ w, Calls Try.prog 22 #[.complex .f64 x y] w fun e w' => e = .returned (.tuple #[.int .i64 a, .int .i64 b, .bool k]) ∧ w = w' := by
  cases h : (wh x && wh y)
  · exact ⟨0, 0, false, rfl, (fun h => by cases h), rparts_no x y hx hy (Lib.hid h)⟩
  · rw [Bool.and_eq_true] at h
    obtain ⟨n, h1, h2, rfl⟩ := of_wh h.1
    obtain ⟨m, g1, g2, rfl⟩ := of_wh h.2
    exact ⟨n, m, true, rfl, fun _ => ⟨inT_mk h1 h2, inT_mk g1 g2, rfl, rfl⟩, rparts_yes n m (Lib.hid (inT_mk h1 h2)) (Lib.hid (inT_mk g1 g2))⟩
theorem use_rparts (x y : Nat) (a b : Int) (k : Bool) (h : Hid (∀ w, Calls Try.prog 22 #[.complex .f64 x y] w fun e w' => e = .returned (.tuple #[.int .i64 a, .int .i64 b, .bool k]) ∧ w = w')) (w : World) :
    Calls Try.prog 22 #[.complex .f64 x y] w fun e w' => e = .returned (.tuple #[.int .i64 a, .int .i64 b, .bool k]) ∧ w = w' := h.out w

set_option maxHeartbeats 400000 in
theorem radd_no (x y u v : Nat) (hx : Hid (x < 2 ^ 64)) (hy : Hid (y < 2 ^ 64)) (hu : Hid (u < 2 ^ 64)) (hv : Hid (v < 2 ^ 64)) (h : Hid (((wh x && wh y) && (wh u && wh v)) = false)) (w : World) :
    Calls Try.prog 19 #[.complex .f64 x y, .complex .f64 u v] w fun e w' => e = .returned (.tuple #[.complex .f64 0 0, .bool false]) ∧ w = w' := by
  obtain ⟨a, b, k, e1, -, c1⟩ := rparts_any x y hx hy
  obtain ⟨c, d, l, e2, -, c2⟩ := rparts_any u v hu hv
  have h' := h.out
  rw [← e1, ← e2] at h'
  have C1 := Lib.hid c1
  have C2 := Lib.hid c2
  clear e1 e2 c1 c2
  cases k <;> cases l
  all_goals first | (cases h'; done) | skip
  all_goals clear h'
  all_goals go_enter Try.func19, Try.ntmps19
  all_goals go_wp2_with (go_at_call 22; first | ((with_reducible refine (use_rparts x y _ _ _ C1 _).mono ?_); rintro e w' ⟨rfl, rfl⟩) | ((with_reducible refine (use_rparts u v _ _ _ C2 _).mono ?_); rintro e w' ⟨rfl, rfl⟩))
  all_goals go_ret2
  all_goals exact ⟨rfl, rfl⟩

set_option maxHeartbeats 400000 in
theorem small_is (a : Int) (b : Bool) (h : Hid (inN a = b)) (w : World) :
    Calls Try.prog 34 #[.int .i64 a] w fun e w' => e = .returned (.bool b) ∧ w = w' := by
  have h' := h.out
  unfold inN at h'
  clear h
  subst h'
  by_cases h1 : -1073741824 ≤ a <;> by_cases h2 : a ≤ 1073741824
  all_goals go_enter Try.func34, Try.ntmps34
  all_goals go_wp2
  all_goals go_ret
  all_goals exact ⟨by simp [h1, h2], rfl⟩

set_option maxHeartbeats 1000000 in
theorem rmul_yes (a b c d p q : Int) (na : Hid (inN a = true)) (nb : Hid (inN b = true)) (nc : Hid (inN c = true)) (nd : Hid (inN d = true)) (hp : a * c - b * d = p) (hq : a * d + b * c = q) (w : World) :
    Calls Try.prog 20 #[.complex .f64 (F a) (F b), .complex .f64 (F c) (F d)] w fun e w' => e = .returned (ans p q) ∧ w = w' := by
  have ga := inN_yes na.out
  have gb := inN_yes nb.out
  have gc := inN_yes nc.out
  have gd := inN_yes nd.out
  have ba : a.natAbs ≤ 1073741824 := by omega
  have bb : b.natAbs ≤ 1073741824 := by omega
  have bc : c.natAbs ≤ 1073741824 := by omega
  have bd : d.natAbs ≤ 1073741824 := by omega
  have m1 := mul_bound ba bc
  have m2 := mul_bound bb bd
  have m3 := mul_bound ba bd
  have m4 := mul_bound bb bc
  have TA := Lib.hid (inN_inT na.out)
  have TB := Lib.hid (inN_inT nb.out)
  have TC := Lib.hid (inN_inT nc.out)
  have TD := Lib.hid (inN_inT nd.out)
  clear ga gb gc gd ba bb bc bd
  generalize e1 : a * c = x1 at *
  generalize e2 : b * d = x2 at *
  generalize e3 : a * d = x3 at *
  generalize e4 : b * c = x4 at *
  obtain ⟨l1, u1⟩ : -1152921504606846976 ≤ x1 ∧ x1 ≤ 1152921504606846976 := bound_abs m1
  obtain ⟨l2, u2⟩ : -1152921504606846976 ≤ x2 ∧ x2 ≤ 1152921504606846976 := bound_abs m2
  obtain ⟨l3, u3⟩ : -1152921504606846976 ≤ x3 ∧ x3 ≤ 1152921504606846976 := bound_abs m3
  obtain ⟨l4, u4⟩ : -1152921504606846976 ≤ x4 ∧ x4 ≤ 1152921504606846976 := bound_abs m4
  clear m1 m2 m3 m4
  have p1 : -2305843009213693952 ≤ p ∧ p ≤ 2305843009213693952 := by omega
  have q1 : -2305843009213693952 ≤ q ∧ q ≤ 2305843009213693952 := by omega
  obtain ⟨p1, p2⟩ := p1
  obtain ⟨q1, q2⟩ := q1
  unfold ans
  cases h : (inT p && inT q)
  · have H := Lib.hid h
    clear h
    go_enter Try.func20, Try.ntmps20
    go_wp2_with (first
      | (go_at_call 22; first | ((with_reducible refine (rparts_yes a b TA TB _).mono ?_); rintro e w' ⟨rfl, rfl⟩) | ((with_reducible refine (rparts_yes c d TC TD _).mono ?_); rintro e w' ⟨rfl, rfl⟩))
      | (go_at_call 34; first | ((with_reducible refine (small_is a _ na _).mono ?_); rintro e w' ⟨rfl, rfl⟩) | ((with_reducible refine (small_is b _ nb _).mono ?_); rintro e w' ⟨rfl, rfl⟩) | ((with_reducible refine (small_is c _ nc _).mono ?_); rintro e w' ⟨rfl, rfl⟩) | ((with_reducible refine (small_is d _ nd _).mono ?_); rintro e w' ⟨rfl, rfl⟩))
      | (go_at_call 21; ((with_reducible refine (rof_no p q H _).mono ?_); rintro e w' ⟨rfl, rfl⟩)))
    go_ret2
    exact ⟨rfl, rfl⟩
  · rw [Bool.and_eq_true] at h
    have H := Lib.hid h.1
    have H2 := Lib.hid h.2
    clear h
    go_enter Try.func20, Try.ntmps20
    go_wp2_with (first
      | (go_at_call 22; first | ((with_reducible refine (rparts_yes a b TA TB _).mono ?_); rintro e w' ⟨rfl, rfl⟩) | ((with_reducible refine (rparts_yes c d TC TD _).mono ?_); rintro e w' ⟨rfl, rfl⟩))
      | (go_at_call 34; first | ((with_reducible refine (small_is a _ na _).mono ?_); rintro e w' ⟨rfl, rfl⟩) | ((with_reducible refine (small_is b _ nb _).mono ?_); rintro e w' ⟨rfl, rfl⟩) | ((with_reducible refine (small_is c _ nc _).mono ?_); rintro e w' ⟨rfl, rfl⟩) | ((with_reducible refine (small_is d _ nd _).mono ?_); rintro e w' ⟨rfl, rfl⟩))
      | (go_at_call 21; ((with_reducible refine (rof_yes p q H H2 _).mono ?_); rintro e w' ⟨rfl, rfl⟩)))
    go_ret2
    exact ⟨rfl, rfl⟩

/-- what 'Parts' tells, and whether the parts may be multiplied -/
theorem rparts_near (x y : Nat) (hx : Hid (x < 2 ^ 64)) (hy : Hid (y < 2 ^ 64)) :
    ∃ (a b : Int) (k : Bool), (nr x && nr y) = (k && (inN a && inN b)) ∧ ∀ w, Calls Try.prog 22 #[.complex .f64 x y] w fun e w' => e = .returned (.tuple #[.int .i64 a, .int .i64 b, .bool k]) ∧ w = w' := by
  obtain ⟨a, b, k, e1, e2, c⟩ := rparts_any x y hx hy
  refine ⟨a, b, k, ?_, c⟩
  cases k
  · rw [Bool.false_and]
    rcases Bool.and_eq_false_iff.1 e1.symm with h | h
    · rw [nr_no h]; rfl
    · rw [nr_no h, Bool.and_false]
  · obtain ⟨h1, h2, rfl, rfl⟩ := e2 rfl
    rw [nr_F h1, nr_F h2, Bool.true_and]

set_option maxHeartbeats 4000000 in
theorem rmul_no (x y u v : Nat) (hx : Hid (x < 2 ^ 64)) (hy : Hid (y < 2 ^ 64)) (hu : Hid (u < 2 ^ 64)) (hv : Hid (v < 2 ^ 64)) (h : Hid (((nr x && nr y) && (nr u && nr v)) = false)) (w : World) :
    Calls Try.prog 20 #[.complex .f64 x y, .complex .f64 u v] w fun e w' => e = .returned (.tuple #[.complex .f64 0 0, .bool false]) ∧ w = w' := by
  obtain ⟨a, b, k, e1, c1⟩ := rparts_near x y hx hy
  obtain ⟨c, d, l, e2, c2⟩ := rparts_near u v hu hv
  have h' := h.out
  rw [e1, e2] at h'
  have C1 := Lib.hid c1
  have C2 := Lib.hid c2
  clear e1 e2 c1 c2
  obtain ⟨fa, ha⟩ : ∃ f, inN a = f := ⟨_, rfl⟩
  obtain ⟨fb, hb⟩ : ∃ f, inN b = f := ⟨_, rfl⟩
  obtain ⟨fc, hc⟩ : ∃ f, inN c = f := ⟨_, rfl⟩
  obtain ⟨fd, hd⟩ : ∃ f, inN d = f := ⟨_, rfl⟩
  rw [ha, hb, hc, hd] at h'
  have HA := Lib.hid ha
  have HB := Lib.hid hb
  have HC := Lib.hid hc
  have HD := Lib.hid hd
  clear ha hb hc hd
  have hcs : k = false ∨ (k = true ∧ l = false) ∨ (k = true ∧ l = true ∧ fa = false) ∨ (k = true ∧ l = true ∧ fa = true ∧ fb = false) ∨ (k = true ∧ l = true ∧ fa = true ∧ fb = true ∧ fc = false) ∨ (k = true ∧ l = true ∧ fa = true ∧ fb = true ∧ fc = true ∧ fd = false) := by
    revert h'; cases k <;> cases l <;> cases fa <;> cases fb <;> cases fc <;> cases fd <;> decide
  clear h'
  rcases hcs with rfl | ⟨rfl, rfl⟩ | ⟨rfl, rfl, rfl⟩ | ⟨rfl, rfl, rfl, rfl⟩ | ⟨rfl, rfl, rfl, rfl, rfl⟩ | ⟨rfl, rfl, rfl, rfl, rfl, rfl⟩
  · cases l
    all_goals
      go_enter Try.func20, Try.ntmps20
      go_wp2_with (go_at_call 22; first | ((with_reducible refine (use_rparts x y _ _ _ C1 _).mono ?_); rintro e w' ⟨rfl, rfl⟩) | ((with_reducible refine (use_rparts u v _ _ _ C2 _).mono ?_); rintro e w' ⟨rfl, rfl⟩))
      go_ret2
      exact ⟨rfl, rfl⟩
  all_goals
    go_enter Try.func20, Try.ntmps20
    go_wp2_with (first
      | (go_at_call 22; first | ((with_reducible refine (use_rparts x y _ _ _ C1 _).mono ?_); rintro e w' ⟨rfl, rfl⟩) | ((with_reducible refine (use_rparts u v _ _ _ C2 _).mono ?_); rintro e w' ⟨rfl, rfl⟩))
      | (go_at_call 34; first | ((with_reducible refine (small_is a _ HA _).mono ?_); rintro e w' ⟨rfl, rfl⟩) | ((with_reducible refine (small_is b _ HB _).mono ?_); rintro e w' ⟨rfl, rfl⟩) | ((with_reducible refine (small_is c _ HC _).mono ?_); rintro e w' ⟨rfl, rfl⟩) | ((with_reducible refine (small_is d _ HD _).mono ?_); rintro e w' ⟨rfl, rfl⟩)))
    go_ret2
    exact ⟨rfl, rfl⟩
end Go.Proofs.Ytpbekngchhafcaa
