/-
  The walks of isNear and Add of package gauss: the exact sum, or false. No condition beyond words below 2^64.
-/
import Derived.Test.YtpbekngchhafcaaWb
namespace Go.Proofs.Ytpbekngchhafcaa
open Go.RowKit Flo

/-- in the range of a part that is multiplied -/
def inN (p : Int) : Bool := decide (-1073741824 ≤ p) && decide (p ≤ 1073741824)
theorem inN_yes {p : Int} (h : inN p = true) : -1073741824 ≤ p ∧ p ≤ 1073741824 := by
  unfold inN at h
  rw [Bool.and_eq_true] at h
  exact ⟨of_decide_eq_true h.1, of_decide_eq_true h.2⟩
theorem inN_mk {p : Int} (h1 : -1073741824 ≤ p) (h2 : p ≤ 1073741824) : inN p = true := by
  unfold inN
  rw [Bool.and_eq_true]
  exact ⟨decide_eq_true h1, decide_eq_true h2⟩
theorem inN_inT {p : Int} (h : inN p = true) : inT p = true := by
  have := inN_yes h
  exact inT_mk (by unfold top; omega) (by unfold top; omega)

theorem within_N (p : Int) (b : Bool) (h : Hid (inN p = b)) (w : World) :
    Calls Try.prog 30 #[.int .i64 p, .int .i64 (-1073741824), .int .i64 1073741824] w fun e w' => e = .returned (.bool b) ∧ w = w' :=
  within_is p _ _ b (Lib.hid h.out) w

set_option maxHeartbeats 400000 in
theorem near_is (a b : Int) (ha : Hid (inT a = true)) (hb : Hid (inT b = true)) (u v : Bool) (hu : Hid (inN a = u)) (hv : Hid (inN b = v)) (w : World) :
    Calls Try.prog 31 #[.complex .f64 (F a) (F b)] w fun e w' => e = .returned (.bool (u && v)) ∧ w = w' := by
  cases u <;> cases v
  all_goals go_enter Try.func31, Try.ntmps31
  all_goals go_wp2_with (first | (go_at_call 14; refine (parts_yes a b ha hb _).mono ?_; rintro e w' ⟨rfl, rfl⟩) | (go_at_call 30; first | ((with_reducible refine (within_N a _ hu _).mono ?_); rintro e w' ⟨rfl, rfl⟩) | ((with_reducible refine (within_N b _ hv _).mono ?_); rintro e w' ⟨rfl, rfl⟩)))
  all_goals go_ret
  all_goals exact ⟨rfl, rfl⟩

set_option maxHeartbeats 400000 in
theorem near_no (x y : Nat) (hx : Hid (x < 2 ^ 64)) (hy : Hid (y < 2 ^ 64)) (h : Hid ((wh x && wh y) = false)) (w : World) :
    Calls Try.prog 31 #[.complex .f64 x y] w fun e w' => e = .returned (.bool false) ∧ w = w' := by
  go_enter Try.func31, Try.ntmps31
  go_wp2_with (go_at_call 14; refine (parts_no x y hx hy h _).mono ?_; rintro e w' ⟨rfl, rfl⟩)
  go_ret
  exact ⟨rfl, rfl⟩

/-- what a call of 'Add', 'Mul' or 'Of' answers of the exact parts -/
def ans (p q : Int) : Value := if inT p && inT q then .tuple #[.complex .f64 (F p) (F q), .bool true] else .tuple #[.complex .f64 0 0, .bool false]

theorem wh_val {n : Int} (h : n.natAbs < 2 ^ 53) : wh (F n) = inT n := by
  cases c : inT n
  · refine wh_no ?_
    rintro ⟨m, h1, h2, h3⟩
    have := F_inj h (small_53 h1 h2) h3
    subst this
    rw [inT_mk h1 h2] at c
    cases c
  · exact wh_F (inT_yes c).1 (inT_yes c).2

set_option maxHeartbeats 400000 in
theorem add_yes (a b c d : Int) (ha : Hid (inT a = true)) (hb : Hid (inT b = true)) (hc : Hid (inT c = true)) (hd : Hid (inT d = true)) (w : World) :
    Calls Try.prog 12 #[.complex .f64 (F a) (F b), .complex .f64 (F c) (F d)] w fun e w' => e = .returned (ans (a + c) (b + d)) ∧ w = w' := by
  have a1 := small_53 (inT_yes ha.out).1 (inT_yes ha.out).2
  have b1 := small_53 (inT_yes hb.out).1 (inT_yes hb.out).2
  have c1 := small_53 (inT_yes hc.out).1 (inT_yes hc.out).2
  have d1 := small_53 (inT_yes hd.out).1 (inT_yes hd.out).2
  have s1 : (a + c).natAbs < 2 ^ 53 := by
    have := inT_yes ha.out; have := inT_yes hc.out; unfold top at *; omega
  have s2 : (b + d).natAbs < 2 ^ 53 := by
    have := inT_yes hb.out; have := inT_yes hd.out; unfold top at *; omega
  have hop := run_add_F 24 a b c d a1 b1 c1 d1 Try.prog w
  have wa := Lib.hid (wh_F (inT_yes ha.out).1 (inT_yes ha.out).2)
  have wb := Lib.hid (wh_F (inT_yes hb.out).1 (inT_yes hb.out).2)
  have wc := Lib.hid (wh_F (inT_yes hc.out).1 (inT_yes hc.out).2)
  have wd := Lib.hid (wh_F (inT_yes hd.out).1 (inT_yes hd.out).2)
  have we := Lib.hid (wh_val s1)
  have wf := Lib.hid (wh_val s2)
  clear a1 b1 c1 d1 s1 s2
  unfold ans
  cases h1 : inT (a + c) <;> cases h2 : inT (b + d)
  all_goals
    have hwe : Hid (wh (F (a + c)) = _) := Lib.hid (we.out.trans h1)
    have hwf : Hid (wh (F (b + d)) = _) := Lib.hid (wf.out.trans h2)
    clear h1 h2
    go_enter Try.func12, Try.ntmps12
    go_wp2_with (go_at_call 25; first
      | ((with_reducible refine (whole_is _ _ (Lib.hid (F_lt a)) (Lib.hid (F_lt b)) true true wa wb _).mono ?_); rintro e w' ⟨rfl, rfl⟩)
      | ((with_reducible refine (whole_is _ _ (Lib.hid (F_lt c)) (Lib.hid (F_lt d)) true true wc wd _).mono ?_); rintro e w' ⟨rfl, rfl⟩)
      | ((with_reducible refine (whole_is _ _ (Lib.hid (F_lt (a + c))) (Lib.hid (F_lt (b + d))) _ _ hwe hwf _).mono ?_); rintro e w' ⟨rfl, rfl⟩))
    go_ret2
    exact ⟨rfl, rfl⟩

/-- the world, but for answers that were drawn -/
def Drawn (w w' : World) : Prop := ∃ n, w' = w.drewN n

set_option maxHeartbeats 400000 in
theorem add_no (a b c d : Nat) (ha : Hid (a < 2 ^ 64)) (hb : Hid (b < 2 ^ 64)) (hc : Hid (c < 2 ^ 64)) (hd : Hid (d < 2 ^ 64)) (h : Hid (((wh a && wh b) && (wh c && wh d)) = false)) (w : World) :
    Calls Try.prog 12 #[.complex .f64 a b, .complex .f64 c d] w fun e w' => e = .returned (.tuple #[.complex .f64 0 0, .bool false]) ∧ Drawn w w' := by
  obtain ⟨r, i, n, hop⟩ := run_add_any 24 a b c d Try.prog w
  have h' := h.out
  cases h1 : (wh a && wh b)
  · have H1 := Lib.hid h1
    clear h1 h'
    go_enter Try.func12, Try.ntmps12
    go_wp2_with (go_at_call 25; refine (whole_any a b ha.out hb.out _).mono ?_; rw [H1.out]; rintro e w' ⟨rfl, rfl⟩)
    go_ret2
    exact ⟨rfl, n, rfl⟩
  · rw [h1, Bool.true_and] at h'
    have H1 := Lib.hid h1
    have H2 := Lib.hid h'
    clear h1 h'
    go_enter Try.func12, Try.ntmps12
    go_wp2_with (go_at_call 25; first | ((with_reducible refine (whole_any a b ha.out hb.out _).mono ?_); rw [H1.out]; rintro e w' ⟨rfl, rfl⟩) | ((with_reducible refine (whole_any c d hc.out hd.out _).mono ?_); rw [H2.out]; rintro e w' ⟨rfl, rfl⟩))
    go_ret2
    exact ⟨rfl, n, rfl⟩
end Go.Proofs.Ytpbekngchhafcaa
