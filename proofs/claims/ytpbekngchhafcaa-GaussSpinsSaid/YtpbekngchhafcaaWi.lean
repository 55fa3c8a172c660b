/-
  The walk of same of reevelaw1 at one and the same whole number, and the walks of the laws GaussRing and GaussTurns. Condition: the arguments are of the laws' types.
-/
import Derived.Test.YtpbekngchhafcaaWh
namespace Go.Proofs.Ytpbekngchhafcaa
open Go.RowKit Flo

theorem eq_self {a : Int} (h : a.natAbs < 2 ^ 53) : (FloatKind.f64.format.order (F a) (F a) == some .eq) = true := by rw [eq_F h h]; simp
theorem ne_zero {a : Int} (h : a.natAbs < 2 ^ 53) (h0 : a ≠ 0) : (FloatKind.f64.format.order (F a) 0 != some .eq) = true := by
  have := eq_F h (b := 0) (by decide)
  rw [c_zero] at this
  rw [bne, this]; simp [h0]
theorem one_over (P : Program) (w : World) : (binOp .quo 23 (.float .f64 4607182418800017408) (.float .f64 0)).run P w = .ok (.float .f64 9218868437227405312) w :=
  run_float_arith w .quo 23 .f64 _ _ _ (by decide +kernel)

set_option maxHeartbeats 400000 in
theorem same_self (a b : Int) (ha : Hid (a.natAbs < 2 ^ 53)) (hb : Hid (b.natAbs < 2 ^ 53)) (w : World) :
    Calls Try.prog 24 #[.complex .f64 (F a) (F b), .complex .f64 (F a) (F b)] w fun e w' => e = .returned (.bool true) ∧ w = w' := by
  have ea := eq_self ha.out
  have eb := eq_self hb.out
  have ho := one_over Try.prog w
  have hz : (FloatKind.f64.format.order 0 0 != some .eq) = false := by decide +kernel
  have hz' : (FloatKind.f64.format.order 0 0 == some .eq) = true := by decide +kernel
  have hi : (FloatKind.f64.format.order 9218868437227405312 9218868437227405312 == some .eq) = true := by decide +kernel
  by_cases h1 : a = 0 <;> by_cases h2 : b = 0
  · subst h1; subst h2
    rw [c_zero]
    clear ea eb
    go_enter Try.func24, Try.ntmps24
    go_wp2
    go_ret
    exact ⟨rfl, rfl⟩
  · subst h1
    have n2 := ne_zero hb.out h2
    rw [c_zero]
    clear ea h2
    generalize F b = y at *
    go_enter Try.func24, Try.ntmps24
    go_wp2
    go_ret
    exact ⟨rfl, rfl⟩
  · subst h2
    have n1 := ne_zero ha.out h1
    rw [c_zero]
    clear eb h1
    generalize F a = x at *
    go_enter Try.func24, Try.ntmps24
    go_wp2
    go_ret
    exact ⟨rfl, rfl⟩
  · have n1 := ne_zero ha.out h1
    have n2 := ne_zero hb.out h2
    clear h1 h2
    generalize F a = x at *
    generalize F b = y at *
    go_enter Try.func24, Try.ntmps24
    go_wp2
    go_ret
    exact ⟨rfl, rfl⟩

theorem rot_rot (m n a b : Int) : rotA (n % 4) (rotA (m % 4) a b) (rotB (m % 4) a b) = rotA ((m + n) % 4) a b ∧ rotB (n % 4) (rotA (m % 4) a b) (rotB (m % 4) a b) = rotB ((m + n) % 4) a b := by
  have hm : m % 4 = 0 ∨ m % 4 = 1 ∨ m % 4 = 2 ∨ m % 4 = 3 := by omega
  have hn : n % 4 = 0 ∨ n % 4 = 1 ∨ n % 4 = 2 ∨ n % 4 = 3 := by omega
  have hs : (m + n) % 4 = (m % 4 + n % 4) % 4 := by omega
  rw [hs]
  rcases hm with h | h | h | h <;> rcases hn with g | g | g | g <;> rw [h, g] <;> unfold rotA rotB <;> simp

theorem turn_is (a b q p r : Int) (ha : Hid (inT a = true)) (hb : Hid (inT b = true)) (hp : Hid (rotA (q % 4) a b = p)) (hr : Hid (rotB (q % 4) a b = r)) (w : World) :
    Calls Try.prog 17 #[.complex .f64 (F a) (F b), .int .i64 q] w fun e w' => e = .returned (.complex .f64 (F p) (F r)) ∧ Below w.heap.size w w' := by
  rw [← hp.out, ← hr.out]; exact turn_yes a b q ha hb w

theorem nA {a : Int} (h : inT a = true) : a.natAbs < 2 ^ 53 := small_53 (inT_yes h).1 (inT_yes h).2

theorem mul_i_is (a b : Int) (ha : Hid (inT a = true)) (hb : Hid (inT b = true)) :
    ∃ (u v : Nat) (f : Bool), (f = true → u = F (-b) ∧ v = F a) ∧ ∀ w, Calls Try.prog 13 #[.complex .f64 (F a) (F b), .complex .f64 0 4607182418800017408] w fun e w' => e = .returned (.tuple #[.complex .f64 u v, .bool f]) ∧ w = w' := by
  by_cases h : (inN a && inN b) = true
  · rw [Bool.and_eq_true] at h
    have := mul_yes a b 0 1 (Lib.hid h.1) (Lib.hid h.2) (Lib.hid (by decide)) (Lib.hid (by decide))
    rw [c_zero, c_one] at this
    have e1 : a * 0 - b * 1 = -b := by omega
    have e2 : a * 1 + b * 0 = a := by omega
    rw [e1, e2] at this
    have hn : inT (-b) = true := by
      have := inT_yes hb.out; unfold top at this; exact inT_mk (by unfold top; omega) (by unfold top; omega)
    unfold ans at this
    rw [if_pos (by rw [hn, ha.out]; rfl)] at this
    exact ⟨F (-b), F a, true, fun _ => ⟨rfl, rfl⟩, this⟩
  · refine ⟨0, 0, false, (fun h => by cases h), fun w => ?_⟩
    have h' : (inN a && inN b) = false := by cases g : (inN a && inN b); rfl; exact absurd g h
    have e : ((nr (F a) && nr (F b)) && (nr 0 && nr 4607182418800017408)) = false := by
      rw [nr_F ha.out, nr_F hb.out, h', Bool.false_and]
    exact mul_no _ _ _ _ (Lib.hid (F_lt a)) (Lib.hid (F_lt b)) (Lib.hid (by decide)) (Lib.hid (by decide)) (Lib.hid e) w

theorem of_no (p q : Int) (h : Hid ((inT p && inT q) = false)) (w : World) :
    Calls Try.prog 11 #[.int .i64 p, .int .i64 q] w fun e w' => e = .returned (.tuple #[.complex .f64 0 0, .bool false]) ∧ w = w' := by
  have := of_is p q _ _ (Lib.hid rfl) (Lib.hid rfl) w
  rw [h.out] at this
  exact this

set_option maxHeartbeats 1000000 in
/-- GaussTurns, where it asks anything. -/
theorem turns_in (a b m n : Int) (ha : inT a = true) (hb : inT b = true) (hm : inT m = true) (hn : inT n = true) (w : World) :
    Calls Try.prog 6 #[.int .i64 a, .int .i64 b, .int .i64 m, .int .i64 n] w fun e w' => e = .returned (.bool true) ∧ Below w.heap.size w w' := by
  have gm := inT_yes hm
  have gn := inT_yes hn
  unfold top at gm gn
  obtain ⟨m0, m1⟩ := gm
  obtain ⟨n0, n1⟩ := gn
  have TA := Lib.hid ha
  have TB := Lib.hid hb
  have TNB : Hid (inT (-b) = true) := Lib.hid (by
    have := inT_yes hb; unfold top at this; exact inT_mk (by unfold top; omega) (by unfold top; omega))
  have r1 := rot_range (k := m % 4) ha hb
  have r2 := rot_range (k := (m + n) % 4) ha hb
  have rr := rot_rot m n a b
  have NA := Lib.hid (nA ha)
  have NB := Lib.hid (nA hb)
  have wq : Hid ((wh (F (-b)) = true)) := Lib.hid (wh_F (inT_yes TNB.out).1 (inT_yes TNB.out).2)
  have wa : Hid ((wh (F a) = true)) := Lib.hid (wh_F (inT_yes ha).1 (inT_yes ha).2)
  obtain ⟨u, v, f, hf, HM⟩ := mul_i_is a b TA TB
  generalize ep : rotA (m % 4) a b = p1 at *
  generalize eq : rotB (m % 4) a b = q1 at *
  generalize ep2 : rotA ((m + n) % 4) a b = p2 at *
  generalize eq2 : rotB ((m + n) % 4) a b = q2 at *
  have P1 := Lib.hid ep
  have Q1 := Lib.hid eq
  have P2 := Lib.hid ep2
  have Q2 := Lib.hid eq2
  have P3 := Lib.hid rr.1
  have Q3 := Lib.hid rr.2
  have T1 := Lib.hid r1.1
  have T2 := Lib.hid r1.2
  have N1 := Lib.hid (nA r2.1)
  have N2 := Lib.hid (nA r2.2)
  have e0 := eq_self (nA TNB.out)
  have e1 := eq_self (nA ha)
  have HMM := Lib.hid HM
  have HB := Lib.hid (Below.refl w.heap.size w)
  clear ep eq ep2 eq2 rr r1 r2 ha hb hm hn HM
  cases f
  · clear hf
    go_enter Try.func6, Try.ntmps6
    go_wp2_with (first
      | (go_at_call 10; refine (awake_any _).mono ?_; rintro e w' ⟨rfl, hb⟩; replace HB := Lib.hid (HB.out.trans (hb.mono HB.out.size)); clear hb)
      | (go_at_call 11; refine (of_yes a b TA TB _).mono ?_; rintro e w' ⟨rfl, rfl⟩)
      | (go_at_call 17; first
        | ((with_reducible refine (turn_is a b 1 (-b) a TA TB (Lib.hid rfl) (Lib.hid rfl) _).mono ?_); rintro e w' ⟨rfl, hb⟩; replace HB := Lib.hid (HB.out.trans (hb.mono HB.out.size)); clear hb)
        | ((with_reducible refine (turn_is a b 4 a b TA TB (Lib.hid rfl) (Lib.hid rfl) _).mono ?_); rintro e w' ⟨rfl, hb⟩; replace HB := Lib.hid (HB.out.trans (hb.mono HB.out.size)); clear hb)
        | ((with_reducible refine (turn_is a b m p1 q1 TA TB P1 Q1 _).mono ?_); rintro e w' ⟨rfl, hb⟩; replace HB := Lib.hid (HB.out.trans (hb.mono HB.out.size)); clear hb)
        | ((with_reducible refine (turn_is p1 q1 n p2 q2 T1 T2 P3 Q3 _).mono ?_); rintro e w' ⟨rfl, hb⟩; replace HB := Lib.hid (HB.out.trans (hb.mono HB.out.size)); clear hb)
        | ((with_reducible refine (turn_is a b (m + n) p2 q2 TA TB P2 Q2 _).mono ?_); rintro e w' ⟨rfl, hb⟩; replace HB := Lib.hid (HB.out.trans (hb.mono HB.out.size)); clear hb))
      | (go_at_call 24; first
        | ((with_reducible refine (same_self a b NA NB _).mono ?_); rintro e w' ⟨rfl, rfl⟩)
        | ((with_reducible refine (same_self p2 q2 N1 N2 _).mono ?_); rintro e w' ⟨rfl, rfl⟩))
      | (go_at_call 25; refine (whole_is _ _ (Lib.hid (F_lt (-b))) (Lib.hid (F_lt a)) true true wq wa _).mono ?_; rintro e w' ⟨rfl, rfl⟩)
      | (go_at_call 13; refine (HMM.out _).mono ?_; rintro e w' ⟨rfl, rfl⟩))
    go_ret
    exact ⟨rfl, HB.out⟩
  · obtain ⟨rfl, rfl⟩ := hf rfl
    clear hf
    go_enter Try.func6, Try.ntmps6
    go_wp2_with (first
      | (go_at_call 10; refine (awake_any _).mono ?_; rintro e w' ⟨rfl, hb⟩; replace HB := Lib.hid (HB.out.trans (hb.mono HB.out.size)); clear hb)
      | (go_at_call 11; refine (of_yes a b TA TB _).mono ?_; rintro e w' ⟨rfl, rfl⟩)
      | (go_at_call 17; first
        | ((with_reducible refine (turn_is a b 1 (-b) a TA TB (Lib.hid rfl) (Lib.hid rfl) _).mono ?_); rintro e w' ⟨rfl, hb⟩; replace HB := Lib.hid (HB.out.trans (hb.mono HB.out.size)); clear hb)
        | ((with_reducible refine (turn_is a b 4 a b TA TB (Lib.hid rfl) (Lib.hid rfl) _).mono ?_); rintro e w' ⟨rfl, hb⟩; replace HB := Lib.hid (HB.out.trans (hb.mono HB.out.size)); clear hb)
        | ((with_reducible refine (turn_is a b m p1 q1 TA TB P1 Q1 _).mono ?_); rintro e w' ⟨rfl, hb⟩; replace HB := Lib.hid (HB.out.trans (hb.mono HB.out.size)); clear hb)
        | ((with_reducible refine (turn_is p1 q1 n p2 q2 T1 T2 P3 Q3 _).mono ?_); rintro e w' ⟨rfl, hb⟩; replace HB := Lib.hid (HB.out.trans (hb.mono HB.out.size)); clear hb)
        | ((with_reducible refine (turn_is a b (m + n) p2 q2 TA TB P2 Q2 _).mono ?_); rintro e w' ⟨rfl, hb⟩; replace HB := Lib.hid (HB.out.trans (hb.mono HB.out.size)); clear hb))
      | (go_at_call 24; first
        | ((with_reducible refine (same_self a b NA NB _).mono ?_); rintro e w' ⟨rfl, rfl⟩)
        | ((with_reducible refine (same_self p2 q2 N1 N2 _).mono ?_); rintro e w' ⟨rfl, rfl⟩))
      | (go_at_call 25; refine (whole_is _ _ (Lib.hid (F_lt (-b))) (Lib.hid (F_lt a)) true true wq wa _).mono ?_; rintro e w' ⟨rfl, rfl⟩)
      | (go_at_call 13; refine (HMM.out _).mono ?_; rintro e w' ⟨rfl, rfl⟩))
    go_ret
    exact ⟨rfl, HB.out⟩

set_option maxHeartbeats 1000000 in
/-- GaussTurns, where it asks nothing. -/
theorem turns_out (a b m n : Int) (h : (inT a && inT b && inT m && inT n) = false) (w : World) :
    Calls Try.prog 6 #[.int .i64 a, .int .i64 b, .int .i64 m, .int .i64 n] w fun e w' => e = .returned (.bool true) ∧ Below w.heap.size w w' := by
  have HB := Lib.hid (Below.refl w.heap.size w)
  cases hab : (inT a && inT b)
  · have HF := Lib.hid hab
    clear h hab
    go_enter Try.func6, Try.ntmps6
    go_wp2_with (first
      | (go_at_call 10; refine (awake_any _).mono ?_; rintro e w' ⟨rfl, hb⟩; replace HB := Lib.hid (HB.out.trans (hb.mono HB.out.size)); clear hb)
      | (go_at_call 11; refine (of_no a b HF _).mono ?_; rintro e w' ⟨rfl, rfl⟩))
    go_ret
    exact ⟨rfl, HB.out⟩
  · rw [hab, Bool.true_and] at h
    rw [Bool.and_eq_true] at hab
    have TA := Lib.hid hab.1
    have TB := Lib.hid hab.2
    have hc : 1099511627776 < m ∨ (m ≤ 1099511627776 ∧ m < -1099511627776) ∨ (-1099511627776 ≤ m ∧ m ≤ 1099511627776 ∧ 1099511627776 < n) ∨ (-1099511627776 ≤ m ∧ m ≤ 1099511627776 ∧ n ≤ 1099511627776 ∧ n < -1099511627776) := by
      unfold inT at h
      simp only [Bool.and_eq_false_iff, decide_eq_false_iff_not] at h
      omega
    clear h hab
    rcases hc with h1 | ⟨h1, h2⟩ | ⟨h1, h2, h3⟩ | ⟨h1, h2, h3, h4⟩
    all_goals
      go_enter Try.func6, Try.ntmps6
      go_wp2_with (first
        | (go_at_call 10; refine (awake_any _).mono ?_; rintro e w' ⟨rfl, hb⟩; replace HB := Lib.hid (HB.out.trans (hb.mono HB.out.size)); clear hb)
        | (go_at_call 11; refine (of_yes a b TA TB _).mono ?_; rintro e w' ⟨rfl, rfl⟩))
      go_ret
      exact ⟨rfl, HB.out⟩

theorem turns_walk (a b m n : Int) (w : World) :
    Calls Try.prog 6 #[.int .i64 a, .int .i64 b, .int .i64 m, .int .i64 n] w fun e w' => e = .returned (.bool true) ∧ Below w.heap.size w w' := by
  cases h : (inT a && inT b && inT m && inT n)
  · exact turns_out a b m n h w
  · simp only [Bool.and_eq_true] at h
    exact turns_in a b m n h.1.1.1 h.1.1.2 h.1.2 h.2 w

theorem mul_ok (a b c d p q : Int) (na : Hid (inN a = true)) (nb : Hid (inN b = true)) (nc : Hid (inN c = true)) (nd : Hid (inN d = true)) (hp : Hid (a * c - b * d = p)) (hq : Hid (a * d + b * c = q))
    (tp : Hid (inT p = true)) (tq : Hid (inT q = true)) (w : World) :
    Calls Try.prog 13 #[.complex .f64 (F a) (F b), .complex .f64 (F c) (F d)] w fun e w' => e = .returned (.tuple #[.complex .f64 (F p) (F q), .bool true]) ∧ w = w' := by
  have h := mul_yes a b c d na nb nc nd w
  rw [hp.out, hq.out] at h
  unfold ans at h
  rw [if_pos (by rw [tp.out, tq.out]; rfl)] at h
  exact h

theorem add_ok (a b c d p q : Int) (ha : Hid (inT a = true)) (hb : Hid (inT b = true)) (hc : Hid (inT c = true)) (hd : Hid (inT d = true)) (hp : Hid (a + c = p)) (hq : Hid (b + d = q))
    (tp : Hid (inT p = true)) (tq : Hid (inT q = true)) (w : World) :
    Calls Try.prog 12 #[.complex .f64 (F a) (F b), .complex .f64 (F c) (F d)] w fun e w' => e = .returned (.tuple #[.complex .f64 (F p) (F q), .bool true]) ∧ w = w' := by
  have h := add_yes a b c d ha hb hc hd w
  rw [hp.out, hq.out] at h
  unfold ans at h
  rw [if_pos (by rw [tp.out, tq.out]; rfl)] at h
  exact h

theorem norm_ok (a b n : Int) (na : Hid (inN a = true)) (nb : Hid (inN b = true)) (hn : Hid (a * a + b * b = n)) (w : World) :
    Calls Try.prog 16 #[.complex .f64 (F a) (F b)] w fun e w' => e = .returned (.int .i64 n) ∧ w = w' := by
  rw [← hn.out]; exact norm_yes a b na nb w

theorem inN_of {p : Int} (h : p.natAbs ≤ 1073741824) : Hid (inN p = true) := Lib.hid (inN_mk (by omega) (by omega))
theorem inT_of {p : Int} (h : p.natAbs ≤ 1099511627776) : Hid (inT p = true) := Lib.hid (inT_mk (by unfold top; omega) (by unfold top; omega))

theorem sub_bound {x y p : Int} {m n k : Nat} (h : x - y = p) (hx : x.natAbs ≤ m) (hy : y.natAbs ≤ n) (hk : m + n ≤ k) : p.natAbs ≤ k := by omega
theorem add_bound {x y p : Int} {m n k : Nat} (h : x + y = p) (hx : x.natAbs ≤ m) (hy : y.natAbs ≤ n) (hk : m + n ≤ k) : p.natAbs ≤ k := by omega
theorem sq_sum {x y p : Int} {m n k : Nat} (h : x * x + y * y = p) (hx : x.natAbs ≤ m) (hy : y.natAbs ≤ n) (hk : m * m + n * n ≤ k) : 0 ≤ p ∧ p ≤ k := by
  have u1 := mul_bound hx hx
  have u2 := mul_bound hy hy
  have v1 : 0 ≤ x * x := by rw [← Int.natAbs_mul_self]; exact Int.natCast_nonneg _
  have v2 : 0 ≤ y * y := by rw [← Int.natAbs_mul_self]; exact Int.natCast_nonneg _
  generalize x * x = xx at *
  generalize y * y = yy at *
  generalize m * m = mm at *
  generalize n * n = nn at *
  omega
theorem ring1 {a b c d p : Int} (h : a * c - b * d = p) : c * a - d * b = p := by subst h; grind
theorem ring2 {a b c d q : Int} (h : a * d + b * c = q) : c * b + d * a = q := by subst h; grind
theorem ring3 {a b c d e f p1 q1 p2 q2 p : Int} (h1 : a * c - b * d = p1) (h2 : a * d + b * c = q1) (h3 : c * e - d * f = p2) (h4 : c * f + d * e = q2) (h : p1 * e - q1 * f = p) : a * p2 - b * q2 = p := by
  subst h; subst h1; subst h2; subst h3; subst h4; grind
theorem ring4 {a b c d e f p1 q1 p2 q2 p : Int} (h1 : a * c - b * d = p1) (h2 : a * d + b * c = q1) (h3 : c * e - d * f = p2) (h4 : c * f + d * e = q2) (h : p1 * f + q1 * e = p) : a * q2 + b * p2 = p := by
  subst h; subst h1; subst h2; subst h3; subst h4; grind
theorem ring5 {a b c d e f p1 p3 s1 s2 p : Int} (h1 : a * c - b * d = p1) (h3 : a * e - b * f = p3) (g1 : c + e = s1) (g2 : d + f = s2) (h : p1 + p3 = p) : a * s1 - b * s2 = p := by
  subst h; subst h1; subst h3; subst g1; subst g2; grind
theorem ring6 {a b c d e f q1 q3 s1 s2 q : Int} (h1 : a * d + b * c = q1) (h3 : a * f + b * e = q3) (g1 : c + e = s1) (g2 : d + f = s2) (h : q1 + q3 = q) : a * s2 + b * s1 = q := by
  subst h; subst h1; subst h3; subst g1; subst g2; grind
theorem ring7 {a b c d p q o1 o2 : Int} (h1 : a * c - b * d = p) (h2 : a * d + b * c = q) (g1 : a * a + b * b = o1) (g2 : c * c + d * d = o2) : p * p + q * q = o1 * o2 := by
  subst h1; subst h2; subst g1; subst g2; grind
theorem norm_bound {o1 o2 : Int} (h1 : 0 ≤ o1 ∧ o1 ≤ ((549755813888 : Nat) : Int)) (h2 : 0 ≤ o2 ∧ o2 ≤ ((32768 : Nat) : Int)) : 0 ≤ o1 * o2 ∧ o1 * o2 ≤ 18014398509481984 := by
  have u := mul_bound (a := o1) (c := o2) (A := 549755813888) (C := 32768) (by omega) (by omega)
  have v : 0 ≤ o1 * o2 := Int.mul_nonneg h1.1 h2.1
  generalize o1 * o2 = o at *
  omega
theorem bound_abs {p : Int} {k : Nat} (h : p.natAbs ≤ k) : -(k : Int) ≤ p ∧ p ≤ (k : Int) := by omega
theorem le_bound {p : Int} {k m : Nat} (h : p.natAbs ≤ k) (hk : k ≤ m) : p.natAbs ≤ m := Nat.le_trans h hk

set_option maxRecDepth 100000 in
set_option maxHeartbeats 4000000 in
/-- GaussRing. -/
theorem ring_walk (a b c d e f : Int) (ha : a.natAbs ≤ 2147483648) (hb : b.natAbs ≤ 2147483648) (hc : c.natAbs ≤ 32768) (hd : d.natAbs ≤ 32768) (he : e.natAbs ≤ 32768) (hf : f.natAbs ≤ 32768) (w : World) :
    Calls Try.prog 5 #[.int .i32 a, .int .i32 b, .int .i16 c, .int .i16 d, .int .i16 e, .int .i16 f] w fun e w' => e = .returned (.bool true) ∧ Below w.heap.size w w' := by
  have ba : (a.tdiv 4096).natAbs ≤ 524288 := by have e : (a.tdiv 4096).natAbs = a.natAbs / 4096 := Int.natAbs_tdiv a 4096; omega
  have bb : (b.tdiv 4096).natAbs ≤ 524288 := by have e : (b.tdiv 4096).natAbs = b.natAbs / 4096 := Int.natAbs_tdiv b 4096; omega
  have bc : (c.tdiv 256).natAbs ≤ 128 := by have e : (c.tdiv 256).natAbs = c.natAbs / 256 := Int.natAbs_tdiv c 256; omega
  have bd : (d.tdiv 256).natAbs ≤ 128 := by have e : (d.tdiv 256).natAbs = d.natAbs / 256 := Int.natAbs_tdiv d 256; omega
  have be : (e.tdiv 256).natAbs ≤ 128 := by have e : (e.tdiv 256).natAbs = e.natAbs / 256 := Int.natAbs_tdiv e 256; omega
  have bf : (f.tdiv 256).natAbs ≤ 128 := by have e : (f.tdiv 256).natAbs = f.natAbs / 256 := Int.natAbs_tdiv f 256; omega
  obtain ⟨ra1, ra2⟩ : -2147483648 ≤ a ∧ a ≤ 2147483648 := bound_abs ha
  obtain ⟨rb1, rb2⟩ : -2147483648 ≤ b ∧ b ≤ 2147483648 := bound_abs hb
  obtain ⟨rc1, rc2⟩ : -32768 ≤ c ∧ c ≤ 32768 := bound_abs hc
  obtain ⟨rd1, rd2⟩ : -32768 ≤ d ∧ d ≤ 32768 := bound_abs hd
  obtain ⟨re1, re2⟩ : -32768 ≤ e ∧ e ≤ 32768 := bound_abs he
  obtain ⟨rf1, rf2⟩ : -32768 ≤ f ∧ f ≤ 32768 := bound_abs hf
  clear ha hb hc hd he hf
  generalize qa : a.tdiv 4096 = xa at *
  generalize qb : b.tdiv 4096 = xb at *
  generalize qc : c.tdiv 256 = yc at *
  generalize qd : d.tdiv 256 = yd at *
  generalize qe : e.tdiv 256 = ze at *
  generalize qf : f.tdiv 256 = zf at *
  have m1 := mul_bound ba bc
  have m2 := mul_bound bb bd
  have m3 := mul_bound ba bd
  have m4 := mul_bound bb bc
  have m5 := mul_bound bc be
  have m6 := mul_bound bd bf
  have m7 := mul_bound bc bf
  have m8 := mul_bound bd be
  have m9 := mul_bound ba be
  have m10 := mul_bound bb bf
  have m11 := mul_bound ba bf
  have m12 := mul_bound bb be
  -- xy, yz, xz, y + z and their sizes
  obtain ⟨p1, hp1⟩ : ∃ p, xa * yc - xb * yd = p := ⟨_, rfl⟩
  obtain ⟨q1, hq1⟩ : ∃ p, xa * yd + xb * yc = p := ⟨_, rfl⟩
  obtain ⟨p2, hp2⟩ : ∃ p, yc * ze - yd * zf = p := ⟨_, rfl⟩
  obtain ⟨q2, hq2⟩ : ∃ p, yc * zf + yd * ze = p := ⟨_, rfl⟩
  obtain ⟨p3, hp3⟩ : ∃ p, xa * ze - xb * zf = p := ⟨_, rfl⟩
  obtain ⟨q3, hq3⟩ : ∃ p, xa * zf + xb * ze = p := ⟨_, rfl⟩
  have b1 : p1.natAbs ≤ 134217728 := sub_bound hp1 m1 m2 (by decide)
  have b2 : q1.natAbs ≤ 134217728 := add_bound hq1 m3 m4 (by decide)
  have b3 : p2.natAbs ≤ 32768 := sub_bound hp2 m5 m6 (by decide)
  have b4 : q2.natAbs ≤ 32768 := add_bound hq2 m7 m8 (by decide)
  have b5 : p3.natAbs ≤ 134217728 := sub_bound hp3 m9 m10 (by decide)
  have b6 : q3.natAbs ≤ 134217728 := add_bound hq3 m11 m12 (by decide)
  clear m1 m2 m3 m4 m5 m6 m7 m8 m9 m10 m11 m12
  have n1 := mul_bound b1 be
  have n2 := mul_bound b2 bf
  have n3 := mul_bound b1 bf
  have n4 := mul_bound b2 be
  obtain ⟨p4, hp4⟩ : ∃ p, p1 * ze - q1 * zf = p := ⟨_, rfl⟩
  obtain ⟨q4, hq4⟩ : ∃ p, p1 * zf + q1 * ze = p := ⟨_, rfl⟩
  have b7 : p4.natAbs ≤ 1099511627776 := sub_bound hp4 n1 n2 (by decide)
  have b8 : q4.natAbs ≤ 1099511627776 := add_bound hq4 n3 n4 (by decide)
  clear n1 n2 n3 n4
  obtain ⟨s1, hs1⟩ : ∃ p, yc + ze = p := ⟨_, rfl⟩
  obtain ⟨s2, hs2⟩ : ∃ p, yd + zf = p := ⟨_, rfl⟩
  obtain ⟨p5, hp5⟩ : ∃ p, p1 + p3 = p := ⟨_, rfl⟩
  obtain ⟨q5, hq5⟩ : ∃ p, q1 + q3 = p := ⟨_, rfl⟩
  have b9 : s1.natAbs ≤ 256 := add_bound hs1 bc be (by decide)
  have b10 : s2.natAbs ≤ 256 := add_bound hs2 bd bf (by decide)
  have b11 : p5.natAbs ≤ 268435456 := add_bound hp5 b1 b5 (by decide)
  have b12 : q5.natAbs ≤ 268435456 := add_bound hq5 b2 b6 (by decide)
  obtain ⟨o1, ho1⟩ : ∃ p, xa * xa + xb * xb = p := ⟨_, rfl⟩
  obtain ⟨o2, ho2⟩ : ∃ p, yc * yc + yd * yd = p := ⟨_, rfl⟩
  have k1 : yc * xa - yd * xb = p1 := ring1 hp1
  have k2 : yc * xb + yd * xa = q1 := ring2 hq1
  have k3 : xa * p2 - xb * q2 = p4 := ring3 hp1 hq1 hp2 hq2 hp4
  have k4 : xa * q2 + xb * p2 = q4 := ring4 hp1 hq1 hp2 hq2 hq4
  have k5 : xa * s1 - xb * s2 = p5 := ring5 hp1 hp3 hs1 hs2 hp5
  have k6 : xa * s2 + xb * s1 = q5 := ring6 hq1 hq3 hs1 hs2 hq5
  have k7 : p1 * p1 + q1 * q1 = o1 * o2 := ring7 hp1 hq1 ho1 ho2
  have so1 : 0 ≤ o1 ∧ o1 ≤ ((549755813888 : Nat) : Int) := sq_sum ho1 ba bb (by decide)
  have so2 : 0 ≤ o2 ∧ o2 ≤ ((32768 : Nat) : Int) := sq_sum ho2 bc bd (by decide)
  have so3 := norm_bound so1 so2
  obtain ⟨o3, ho3⟩ : ∃ p, o1 * o2 = p := ⟨_, rfl⟩
  rw [ho3] at k7 so3
  obtain ⟨xa1, xa2⟩ : -524288 ≤ xa ∧ xa ≤ 524288 := bound_abs ba
  obtain ⟨xb1, xb2⟩ : -524288 ≤ xb ∧ xb ≤ 524288 := bound_abs bb
  obtain ⟨yc1, yc2⟩ : -128 ≤ yc ∧ yc ≤ 128 := bound_abs bc
  obtain ⟨yd1, yd2⟩ : -128 ≤ yd ∧ yd ≤ 128 := bound_abs bd
  obtain ⟨ze1, ze2⟩ : -128 ≤ ze ∧ ze ≤ 128 := bound_abs be
  obtain ⟨zf1, zf2⟩ : -128 ≤ zf ∧ zf ≤ 128 := bound_abs bf
  have NXA := inN_of (le_bound ba (by decide))
  have NXB := inN_of (le_bound bb (by decide))
  have NYC := inN_of (le_bound bc (by decide))
  have NYD := inN_of (le_bound bd (by decide))
  have NZE := inN_of (le_bound be (by decide))
  have NZF := inN_of (le_bound bf (by decide))
  have NP1 := inN_of (le_bound b1 (by decide))
  have NQ1 := inN_of (le_bound b2 (by decide))
  have NP2 := inN_of (le_bound b3 (by decide))
  have NQ2 := inN_of (le_bound b4 (by decide))
  have NS1 := inN_of (le_bound b9 (by decide))
  have NS2 := inN_of (le_bound b10 (by decide))
  have TXA := Lib.hid (inN_inT NXA.out)
  have TXB := Lib.hid (inN_inT NXB.out)
  have TYC := Lib.hid (inN_inT NYC.out)
  have TYD := Lib.hid (inN_inT NYD.out)
  have TZE := Lib.hid (inN_inT NZE.out)
  have TZF := Lib.hid (inN_inT NZF.out)
  have TP1 := Lib.hid (inN_inT NP1.out)
  have TQ1 := Lib.hid (inN_inT NQ1.out)
  have TP2 := Lib.hid (inN_inT NP2.out)
  have TQ2 := Lib.hid (inN_inT NQ2.out)
  have TS1 := Lib.hid (inN_inT NS1.out)
  have TS2 := Lib.hid (inN_inT NS2.out)
  have TP3 := inT_of (le_bound b5 (by decide))
  have TQ3 := inT_of (le_bound b6 (by decide))
  have TP4 := inT_of b7
  have TQ4 := inT_of b8
  have TP5 := inT_of (le_bound b11 (by decide))
  have TQ5 := inT_of (le_bound b12 (by decide))
  have HP1 := Lib.hid hp1; have HQ1 := Lib.hid hq1
  have HP2 := Lib.hid hp2; have HQ2 := Lib.hid hq2
  have HP3 := Lib.hid hp3; have HQ3 := Lib.hid hq3
  have HP4 := Lib.hid hp4; have HQ4 := Lib.hid hq4
  have HP5 := Lib.hid hp5; have HQ5 := Lib.hid hq5
  have HS1 := Lib.hid hs1; have HS2 := Lib.hid hs2
  have HO1 := Lib.hid ho1; have HO2 := Lib.hid ho2
  have K1 := Lib.hid k1; have K2 := Lib.hid k2; have K3 := Lib.hid k3; have K4 := Lib.hid k4; have K5 := Lib.hid k5; have K6 := Lib.hid k6; have K7 := Lib.hid k7
  have e1 := eq_self (Nat.lt_of_le_of_lt b1 (by decide))
  have e2 := eq_self (Nat.lt_of_le_of_lt b2 (by decide))
  have e3 := eq_self (Nat.lt_of_le_of_lt b7 (by decide))
  have e4 := eq_self (Nat.lt_of_le_of_lt b8 (by decide))
  have e5 := eq_self (Nat.lt_of_le_of_lt b11 (by decide))
  have e6 := eq_self (Nat.lt_of_le_of_lt b12 (by decide))
  clear hp1 hq1 hp2 hq2 hp3 hq3 hp4 hq4 hp5 hq5 hs1 hs2 ho1 ho2 k1 k2 k3 k4 k5 k6 k7 b1 b2 b3 b4 b5 b6 b7 b8 b9 b10 b11 b12 ba bb bc bd be bf
  have HB := Lib.hid (Below.refl w.heap.size w)
  obtain ⟨l1, l2⟩ : 0 ≤ o1 ∧ o1 ≤ 549755813888 := so1
  obtain ⟨l3, l4⟩ : 0 ≤ o2 ∧ o2 ≤ 32768 := so2
  obtain ⟨l5, l6⟩ := so3
  go_enter Try.func5, Try.ntmps5
  go_wp2_with (first
    | (go_at_call 10; refine (awake_any _).mono ?_; rintro e w' ⟨rfl, hb⟩; replace HB := Lib.hid (HB.out.trans (hb.mono HB.out.size)); clear hb)
    | (go_at_call 11; first
      | ((with_reducible refine (of_yes xa xb TXA TXB _).mono ?_); rintro e w' ⟨rfl, rfl⟩)
      | ((with_reducible refine (of_yes yc yd TYC TYD _).mono ?_); rintro e w' ⟨rfl, rfl⟩)
      | ((with_reducible refine (of_yes ze zf TZE TZF _).mono ?_); rintro e w' ⟨rfl, rfl⟩))
    | (go_at_call 13; first
      | ((with_reducible refine (mul_ok xa xb yc yd p1 q1 NXA NXB NYC NYD HP1 HQ1 TP1 TQ1 _).mono ?_); rintro e w' ⟨rfl, rfl⟩)
      | ((with_reducible refine (mul_ok yc yd xa xb p1 q1 NYC NYD NXA NXB K1 K2 TP1 TQ1 _).mono ?_); rintro e w' ⟨rfl, rfl⟩)
      | ((with_reducible refine (mul_ok yc yd ze zf p2 q2 NYC NYD NZE NZF HP2 HQ2 TP2 TQ2 _).mono ?_); rintro e w' ⟨rfl, rfl⟩)
      | ((with_reducible refine (mul_ok p1 q1 ze zf p4 q4 NP1 NQ1 NZE NZF HP4 HQ4 TP4 TQ4 _).mono ?_); rintro e w' ⟨rfl, rfl⟩)
      | ((with_reducible refine (mul_ok xa xb p2 q2 p4 q4 NXA NXB NP2 NQ2 K3 K4 TP4 TQ4 _).mono ?_); rintro e w' ⟨rfl, rfl⟩)
      | ((with_reducible refine (mul_ok xa xb s1 s2 p5 q5 NXA NXB NS1 NS2 K5 K6 TP5 TQ5 _).mono ?_); rintro e w' ⟨rfl, rfl⟩)
      | ((with_reducible refine (mul_ok xa xb ze zf p3 q3 NXA NXB NZE NZF HP3 HQ3 TP3 TQ3 _).mono ?_); rintro e w' ⟨rfl, rfl⟩))
    | (go_at_call 12; first
      | ((with_reducible refine (add_ok yc yd ze zf s1 s2 TYC TYD TZE TZF HS1 HS2 TS1 TS2 _).mono ?_); rintro e w' ⟨rfl, rfl⟩)
      | ((with_reducible refine (add_ok p1 q1 p3 q3 p5 q5 TP1 TQ1 TP3 TQ3 HP5 HQ5 TP5 TQ5 _).mono ?_); rintro e w' ⟨rfl, rfl⟩))
    | (go_at_call 16; first
      | ((with_reducible refine (norm_ok p1 q1 o3 NP1 NQ1 K7 _).mono ?_); rintro e w' ⟨rfl, rfl⟩)
      | ((with_reducible refine (norm_ok xa xb o1 NXA NXB HO1 _).mono ?_); rintro e w' ⟨rfl, rfl⟩)
      | ((with_reducible refine (norm_ok yc yd o2 NYC NYD HO2 _).mono ?_); rintro e w' ⟨rfl, rfl⟩)))
  go_ret
  exact ⟨rfl, HB.out⟩
end Go.Proofs.Ytpbekngchhafcaa
