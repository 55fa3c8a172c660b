/-
  The walks of within, Of and Parts of package gauss, and what sums of two complex numbers come to. No condition beyond words below 2^64.
-/
import Derived.Test.YteadkcekoccmdaaWa
import Derived.Test.YteadkcekoccmdaaMa
import Derived.Deep.Draws
namespace Go.Proofs.Yteadkcekoccmdaa
open Go.RowKit Flo

theorem run_arith_any (op : BinOp) (hop : op = .add ∨ op = .sub ∨ op = .mul) (x y : Nat) (P : Program) (w : World) :
    ∃ r n, (Op.Complex.arith op .f64 x y).run P w = .ok r (w.drewN n) := by
  cases h : floatBits op .f64 x y with
  | some r => exact ⟨r, 0, by rw [run_carith w h]; rfl⟩
  | none =>
    have : ∃ r n, (Op.floatArith op .f64 x y).run P w = .ok (.float .f64 r) (w.drewN n) := by
      rcases hop with rfl | rfl | rfl
      all_goals
        have h' := h
        unfold floatBits at h'
        simp only at h'
        by_cases hq : (Question.nanBits .f64 x y).forced = true
        · exact ⟨_, 0, by simp [Op.floatArith, h', hq]; exact ⟨rfl, rfl⟩⟩
        · exact ⟨_, 1, by simp [Op.floatArith, h', hq]; exact ⟨rfl, rfl⟩⟩
    obtain ⟨r, n, h2⟩ := this
    refine ⟨r, n, ?_⟩
    simp [Op.Complex.arith, h2]

theorem run_add_any (t : TypeId) (a b c d : Nat) (P : Program) (w : World) :
    ∃ r i n, (binOp .add t (.complex .f64 a b) (.complex .f64 c d)).run P w = .ok (.complex .f64 r i) (w.drewN n) := by
  obtain ⟨r, n, h1⟩ := run_arith_any .add (.inl rfl) a c P w
  obtain ⟨i, m, h2⟩ := run_arith_any .add (.inl rfl) b d P (w.drewN n)
  refine ⟨r, i, n + m, ?_⟩
  have e : (w.drewN n).drewN m = w.drewN (n + m) := by unfold World.drewN; simp [Nat.add_assoc]
  simp [binOp, Op.complexOp, h1, h2, e]

theorem run_add_F (t : TypeId) (a b c d : Int) (ha : a.natAbs < 2 ^ 53) (hb : b.natAbs < 2 ^ 53) (hc : c.natAbs < 2 ^ 53) (hd : d.natAbs < 2 ^ 53) (P : Program) (w : World) :
    (binOp .add t (.complex .f64 (F a) (F b)) (.complex .f64 (F c) (F d))).run P w = .ok (.complex .f64 (F (a + c)) (F (b + d))) w :=
  run_complex_sum w .add (.inl rfl) t .f64 _ _ _ _ _ _ (by
    unfold cSumBits floatBits
    simp only [add_F a c ha hc, add_F b d hb hd, Option.bind_some])

theorem run_sub_F (t : TypeId) (a b c d : Int) (ha : a.natAbs < 2 ^ 53) (hb : b.natAbs < 2 ^ 53) (hc : c.natAbs < 2 ^ 53) (hd : d.natAbs < 2 ^ 53) (P : Program) (w : World) :
    (binOp .sub t (.complex .f64 (F a) (F b)) (.complex .f64 (F c) (F d))).run P w = .ok (.complex .f64 (F (a - c)) (F (b - d))) w :=
  run_complex_sum w .sub (.inr rfl) t .f64 _ _ _ _ _ _ (by
    unfold cSumBits floatBits
    simp only [sub_F a c ha hc, sub_F b d hb hd, Option.bind_some])

theorem inT_yes {p : Int} (h : inT p = true) : -top ≤ p ∧ p ≤ top := by
  unfold inT at h
  rw [Bool.and_eq_true] at h
  exact ⟨of_decide_eq_true h.1, of_decide_eq_true h.2⟩
theorem inT_mk {p : Int} (h1 : -top ≤ p) (h2 : p ≤ top) : inT p = true := by
  unfold inT
  rw [Bool.and_eq_true]
  exact ⟨decide_eq_true h1, decide_eq_true h2⟩

set_option maxHeartbeats 400000 in
theorem within_any (a l g : Int) (w : World) :
    Calls Try.prog 34 #[.int .i64 a, .int .i64 l, .int .i64 g] w fun e w' => e = .returned (.bool (decide (l ≤ a) && decide (a ≤ g))) ∧ w = w' := by
  by_cases h1 : l ≤ a <;> by_cases h2 : a ≤ g
  all_goals go_enter Try.func34, Try.ntmps34
  all_goals go_wp2
  all_goals go_ret
  all_goals exact ⟨by simp [h1, h2], rfl⟩

theorem within_is (a l g : Int) (b : Bool) (h : Hid ((decide (l ≤ a) && decide (a ≤ g)) = b)) (w : World) :
    Calls Try.prog 34 #[.int .i64 a, .int .i64 l, .int .i64 g] w fun e w' => e = .returned (.bool b) ∧ w = w' := by
  rw [← h.out]; exact within_any a l g w

theorem within_T (p : Int) (b : Bool) (h : Hid (inT p = b)) (w : World) :
    Calls Try.prog 34 #[.int .i64 p, .int .i64 (-1099511627776), .int .i64 1099511627776] w fun e w' => e = .returned (.bool b) ∧ w = w' :=
  within_is p _ _ b (Lib.hid h.out) w

theorem fo (n : Int) : floatOfInt FloatKind.f64 n = F n := rfl

set_option maxHeartbeats 400000 in
theorem parts_yes (a b : Int) (ha : Hid (inT a = true)) (hb : Hid (inT b = true)) (w : World) :
    Calls Try.prog 33 #[.complex .f64 (F a) (F b)] w fun e w' => e = .returned (.tuple #[.int .i64 a, .int .i64 b, .bool true]) ∧ w = w' := by
  have c1 := conv_int (inT_yes ha.out).1 (inT_yes ha.out).2 (toInt_F (inT_yes ha.out).1 (inT_yes ha.out).2)
  have c2 := conv_int (inT_yes hb.out).1 (inT_yes hb.out).2 (toInt_F (inT_yes hb.out).1 (inT_yes hb.out).2)
  go_enter Try.func33, Try.ntmps33
  go_wp2_with (go_at_call 39; refine (whole_is _ _ (Lib.hid (F_lt a)) (Lib.hid (F_lt b)) true true (Lib.hid (wh_F (inT_yes ha.out).1 (inT_yes ha.out).2)) (Lib.hid (wh_F (inT_yes hb.out).1 (inT_yes hb.out).2)) _).mono ?_; rintro e w' ⟨rfl, rfl⟩)
  go_ret3
  exact ⟨rfl, rfl⟩

set_option maxHeartbeats 400000 in
theorem parts_no (x y : Nat) (hx : Hid (x < 2 ^ 64)) (hy : Hid (y < 2 ^ 64)) (h : Hid ((wh x && wh y) = false)) (w : World) :
    Calls Try.prog 33 #[.complex .f64 x y] w fun e w' => e = .returned (.tuple #[.int .i64 0, .int .i64 0, .bool false]) ∧ w = w' := by
  go_enter Try.func33, Try.ntmps33
  go_wp2_with (go_at_call 39; refine (whole_any x y hx.out hy.out _).mono ?_; rw [h.out]; rintro e w' ⟨rfl, rfl⟩)
  go_ret3
  exact ⟨rfl, rfl⟩
end Go.Proofs.Yteadkcekoccmdaa
