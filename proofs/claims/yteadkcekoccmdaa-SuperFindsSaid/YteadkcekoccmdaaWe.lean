/-
  The walks of Turn and rest of package gauss: turned by quarters; held by the rest of 1000003. Condition of rest: a whole number.
-/
import Derived.Test.YteadkcekoccmdaaWd
namespace Go.Proofs.Yteadkcekoccmdaa
open Go.RowKit Flo

theorem and_three (q : Int) : bits .and .i64 q 3 = q % 4 := by
  unfold bits
  have e : (BitVec.ofInt IntKind.i64.bits q &&& BitVec.ofInt IntKind.i64.bits 3).toNat = (q % 18446744073709551616).toNat % 4 := by
    have := Nat.and_two_pow_sub_one_eq_mod (q % 18446744073709551616).toNat 2
    rw [BitVec.toNat_and, BitVec.toNat_ofInt, BitVec.toNat_ofInt]
    exact this
  simp only [e]
  rw [IntWalk.i64_in _ (by omega)]
  omega

theorem and_mask (x : Int) (h0 : 0 ≤ x) (h1 : x < 18446744073709551616) : bits .and .u64 x 65535 = x % 65536 := by
  unfold bits
  have e : (BitVec.ofInt IntKind.u64.bits x &&& BitVec.ofInt IntKind.u64.bits 65535).toNat = (x % 18446744073709551616).toNat % 65536 := by
    have := Nat.and_two_pow_sub_one_eq_mod (x % 18446744073709551616).toNat 16
    rw [BitVec.toNat_and, BitVec.toNat_ofInt, BitVec.toNat_ofInt]
    exact this
  simp only [e]
  unfold IntKind.wrap
  simp only [show IntKind.u64.signed = false from rfl, show IntKind.u64.bits = 64 from rfl, Bool.false_and, Bool.false_eq_true, if_false]
  omega

@[go_sem] theorem run_store_complex {P : Program} {w : World} {a : Addr} {m : Mode} (k : FloatKind) (x y : Nat) : (store a (.complex k x y) m).run P w = stored P w a (.complex k x y) m := run_store P w a _ m rfl

/-- the parts behind so many quarters -/
def rotA (k a b : Int) : Int := if k = 0 then a else if k = 1 then -b else if k = 2 then -a else b
def rotB (k a b : Int) : Int := if k = 0 then b else if k = 1 then a else if k = 2 then -b else -a
theorem rot_range {k a b : Int} (ha : inT a = true) (hb : inT b = true) : inT (rotA k a b) = true ∧ inT (rotB k a b) = true := by
  have h1 := inT_yes ha
  have h2 := inT_yes hb
  unfold top at h1 h2
  unfold rotA rotB
  refine ⟨inT_mk ?_ ?_, inT_mk ?_ ?_⟩ <;> unfold top <;> (repeat' split) <;> omega

set_option maxHeartbeats 400000 in
theorem turn_run (a b q k R I : Int) (u v x y : Nat) (ha : Hid (inT a = true)) (hb : Hid (inT b = true)) (hq : bits .and .i64 q 3 = k)
    (hk : k = 0 ∧ u = 4607182418800017408 ∧ v = 0 ∨ k = 1 ∧ u = 0 ∧ v = 4607182418800017408 ∨ k = 2 ∧ u = 13830554455654793216 ∧ v = 0 ∨ k = 3 ∧ u = 0 ∧ v = 13830554455654793216)
    (hm : cMulBits (F a) (F b) u v = some (x, y)) (hx : Hid (Is x R)) (hy : Hid (Is y I)) (w : World) :
    Calls Try.prog 35 #[.complex .f64 (F a) (F b), .int .i64 q] w fun e w' => e = .returned (.complex .f64 (F R) (F I)) ∧ Below w.heap.size w w' := by
  have hop := fun w => run_complex_mul (P := Try.prog) w 62 _ _ _ _ _ _ hm
  clear hm
  rcases hk with ⟨rfl, rfl, rfl⟩ | ⟨rfl, rfl, rfl⟩ | ⟨rfl, rfl, rfl⟩ | ⟨rfl, rfl, rfl⟩
  all_goals
    go_enter Try.func35, Try.ntmps35
    go_wp2_with (first | (go_at_call 39; refine (whole_is _ _ (Lib.hid (F_lt a)) (Lib.hid (F_lt b)) true true (Lib.hid (wh_F (inT_yes ha.out).1 (inT_yes ha.out).2)) (Lib.hid (wh_F (inT_yes hb.out).1 (inT_yes hb.out).2)) _).mono ?_; rintro e w' ⟨rfl, rfl⟩) | (go_at_call 40; ((with_reducible refine (unsigned_is x y R I hx hy _).mono ?_); rintro e w' ⟨rfl, rfl⟩)))
    go_ret
    exact ⟨rfl, (Below.refl _ _).alloc (Nat.le_refl _) _⟩

theorem turn_yes (a b q : Int) (ha : Hid (inT a = true)) (hb : Hid (inT b = true)) (w : World) :
    Calls Try.prog 35 #[.complex .f64 (F a) (F b), .int .i64 q] w fun e w' => e = .returned (.complex .f64 (F (rotA (q % 4) a b)) (F (rotB (q % 4) a b))) ∧ Below w.heap.size w w' := by
  have h1 := inT_yes ha.out
  have h2 := inT_yes hb.out
  unfold top at h1 h2
  have hk : q % 4 = 0 ∨ q % 4 = 1 ∨ q % 4 = 2 ∨ q % 4 = 3 := by omega
  have step : ∀ (c d : Int) (u v : Nat), F c = u → F d = v → c.natAbs ≤ 1 → d.natAbs ≤ 1 → a * c - b * d = rotA (q % 4) a b → a * d + b * c = rotB (q % 4) a b →
      (a * c).natAbs < 2 ^ 52 → (b * d).natAbs < 2 ^ 52 → (a * d).natAbs < 2 ^ 52 → (b * c).natAbs < 2 ^ 52 →
      (q % 4 = 0 ∧ u = 4607182418800017408 ∧ v = 0 ∨ q % 4 = 1 ∧ u = 0 ∧ v = 4607182418800017408 ∨ q % 4 = 2 ∧ u = 13830554455654793216 ∧ v = 0 ∨ q % 4 = 3 ∧ u = 0 ∧ v = 13830554455654793216) →
      Calls Try.prog 35 #[.complex .f64 (F a) (F b), .int .i64 q] w fun e w' => e = .returned (.complex .f64 (F (rotA (q % 4) a b)) (F (rotB (q % 4) a b))) ∧ Below w.heap.size w w' := by
    intro c d u v hu hv hc hd e1 e2 g1 g2 g3 g4 hkk
    obtain ⟨x, y, R, I, hm, hx, hy, _, _, _, _, hex⟩ := cmul_is a b c d (by omega) (by omega) (by omega) (by omega) (by omega) (by omega) (by omega) (by omega)
    obtain ⟨r1, r2⟩ := hex g1 g2 g3 g4
    rw [hu, hv] at hm
    rw [← e1, ← e2, ← r1, ← r2]
    exact turn_run a b q (q % 4) R I u v x y ha hb (and_three q) hkk hm (Lib.hid hx) (Lib.hid hy) w
  have m0 : ∀ n : Int, n * 0 = 0 := Int.mul_zero
  have m1 : ∀ n : Int, n * 1 = n := Int.mul_one
  have m2 : ∀ n : Int, n * -1 = -n := fun n => by omega
  rcases hk with h | h | h | h
  · exact step 1 0 _ _ c_one c_zero (by decide) (by decide) (by rw [h]; unfold rotA; simp) (by rw [h]; unfold rotB; simp) (by rw [m1]; omega) (by rw [m0]; decide) (by rw [m0]; decide) (by rw [m1]; omega) (.inl ⟨h, rfl, rfl⟩)
  · exact step 0 1 _ _ c_zero c_one (by decide) (by decide) (by rw [h]; unfold rotA; simp) (by rw [h]; unfold rotB; simp) (by rw [m0]; decide) (by rw [m1]; omega) (by rw [m1]; omega) (by rw [m0]; decide) (.inr (.inl ⟨h, rfl, rfl⟩))
  · exact step (-1) 0 _ _ c_minus_one c_zero (by decide) (by decide) (by rw [h]; unfold rotA; simp) (by rw [h]; unfold rotB; simp) (by rw [m2]; omega) (by rw [m0]; decide) (by rw [m0]; decide) (by rw [m2]; omega) (.inr (.inr (.inl ⟨h, rfl, rfl⟩)))
  · exact step 0 (-1) _ _ c_zero c_minus_one (by decide) (by decide) (by rw [h]; unfold rotA; simp) (by rw [h]; unfold rotB; simp) (by rw [m0]; decide) (by rw [m2]; omega) (by rw [m2]; omega) (by rw [m0]; decide) (.inr (.inr (.inr ⟨h, rfl, rfl⟩)))

set_option maxHeartbeats 400000 in
theorem turn_no (a b : Nat) (q : Int) (ha : Hid (a < 2 ^ 64)) (hb : Hid (b < 2 ^ 64)) (h : Hid ((wh a && wh b) = false)) (w : World) :
    Calls Try.prog 35 #[.complex .f64 a b, .int .i64 q] w fun e w' => e = .returned (.complex .f64 0 0) ∧ w = w' := by
  go_enter Try.func35, Try.ntmps35
  go_wp2_with (go_at_call 39; refine (whole_any a b ha.out hb.out _).mono ?_; rw [h.out]; rintro e w' ⟨rfl, rfl⟩)
  go_ret
  exact ⟨rfl, rfl⟩

/-- held by the rest of 1000003 -/
def res (n : Int) : Int := n % 1000003
theorem res_range (n : Int) : 0 ≤ res n ∧ res n ≤ 1000002 := by unfold res; omega

theorem tmod_facts (n : Int) : -1000003 < n.tmod 1000003 ∧ n.tmod 1000003 < 1000003 ∧ (n.tmod 1000003 + 1000003).tmod 1000003 = res n := by
  have h1 := Int.tmod_lt_of_pos n (b := 1000003) (by omega)
  have h2 := Int.lt_tmod_of_pos n (b := 1000003) (by omega)
  have h3 := Int.tmod_def n 1000003
  refine ⟨h2, h1, ?_⟩
  rw [Int.tmod_eq_emod_of_nonneg (by omega)]
  unfold res
  omega

set_option maxHeartbeats 400000 in
theorem rest_is (n : Int) (h : Hid (inT n = true)) (w : World) :
    Calls Try.prog 36 #[.float .f64 (F n)] w fun e w' => e = .returned (.float .f64 (F (res n))) ∧ w = w' := by
  have g := inT_yes h.out
  have c1 := conv_int g.1 g.2 (toInt_F g.1 g.2)
  have f1 := fo (res n)
  unfold top at g
  obtain ⟨b1, b2, e1⟩ := tmod_facts n
  go_enter Try.func36, Try.ntmps36
  go_wp2
  go_ret
  exact ⟨rfl, rfl⟩
end Go.Proofs.Yteadkcekoccmdaa
