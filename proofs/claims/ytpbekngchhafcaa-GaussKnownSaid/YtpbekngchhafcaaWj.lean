/-
  The walk of the law GaussKnown of reevelaw1: it answers true. No condition.
-/
import Derived.Test.YtpbekngchhafcaaWi
namespace Go.Proofs.Ytpbekngchhafcaa
open Go.RowKit Flo

theorem lits : F 1099511627776 = 4787326403894837248 ∧ F (-1099511627776) = 14010698440749613056 ∧ F 1073741825 = 4742290407625326592 ∧ F 1048576 = 4697254411347427328 ∧ F 2097152 = 4701758010974797824 ∧
    F (-3) = 13837309855095848960 ∧ F 4 = 4616189618054758400 ∧ F (-2) = 13835058055282163712 ∧ F 1000002 = 4696837163864555520 := by
  refine ⟨?_, ?_, ?_, ?_, ?_, ?_, ?_, ?_, ?_⟩ <;> decide +kernel

theorem half_not : wh 4602678819172646912 = false := by
  refine wh_no ?_
  have h : inRange 4602678819172646912 = true := by decide +kernel
  obtain ⟨T, _, _, hT, hc⟩ := cases_range (by decide) h
  have h0 : (FloatKind.f64.decode 4602678819172646912).toInt .zero = some 0 := by decide +kernel
  rw [h0] at hT
  cases hT
  rcases hc with e | ⟨_, e⟩ | ⟨hn, _⟩
  · rw [c_zero] at e; cases e
  · cases e
  · exact hn

theorem k_of1 (w : World) : Calls Try.prog 11 #[.int .i64 1099511627777, .int .i64 0] w fun e w' => e = .returned (.tuple #[.complex .f64 0 0, .bool false]) ∧ w = w' := of_no _ _ (Lib.hid (by decide)) w
theorem k_of2 (w : World) : Calls Try.prog 11 #[.int .i64 0, .int .i64 (-1099511627777)] w fun e w' => e = .returned (.tuple #[.complex .f64 0 0, .bool false]) ∧ w = w' := of_no _ _ (Lib.hid (by decide)) w
theorem k_of3 (w : World) : Calls Try.prog 11 #[.int .i64 1099511627776, .int .i64 (-1099511627776)] w fun e w' => e = .returned (.tuple #[.complex .f64 4787326403894837248 14010698440749613056, .bool true]) ∧ w = w' := by
  have h := of_yes 1099511627776 (-1099511627776) (Lib.hid (by decide)) (Lib.hid (by decide)) w
  rw [lits.1, lits.2.1] at h; exact h
theorem k_add (w : World) : Calls Try.prog 12 #[.complex .f64 4787326403894837248 0, .complex .f64 4607182418800017408 0] w fun e w' => e = .returned (.tuple #[.complex .f64 0 0, .bool false]) ∧ w = w' := by
  have h := add_yes 1099511627776 0 1 0 (Lib.hid (by decide)) (Lib.hid (by decide)) (Lib.hid (by decide)) (Lib.hid (by decide)) w
  unfold ans at h
  rw [if_neg (by decide), lits.1, c_zero, c_one] at h; exact h
theorem near_big : nr 4742290407625326592 = false := by
  rw [← lits.2.2.1, nr_F (by decide)]; decide
theorem k_mul1 (w : World) : Calls Try.prog 13 #[.complex .f64 4742290407625326592 0, .complex .f64 4607182418800017408 0] w fun e w' => e = .returned (.tuple #[.complex .f64 0 0, .bool false]) ∧ w = w' :=
  mul_no _ _ _ _ (Lib.hid (by decide)) (Lib.hid (by decide)) (Lib.hid (by decide)) (Lib.hid (by decide)) (Lib.hid (by rw [near_big]; rfl)) w
theorem k_mul2 (w : World) : Calls Try.prog 13 #[.complex .f64 4697254411347427328 0, .complex .f64 4697254411347427328 0] w fun e w' => e = .returned (.tuple #[.complex .f64 4787326403894837248 0, .bool true]) ∧ w = w' := by
  have h := mul_ok 1048576 0 1048576 0 1099511627776 0 (Lib.hid (by decide)) (Lib.hid (by decide)) (Lib.hid (by decide)) (Lib.hid (by decide)) (Lib.hid (by decide)) (Lib.hid (by decide)) (Lib.hid (by decide)) (Lib.hid (by decide)) w
  rw [lits.1, lits.2.2.2.1, c_zero] at h; exact h
theorem k_mul3 (w : World) : Calls Try.prog 13 #[.complex .f64 4701758010974797824 0, .complex .f64 4697254411347427328 0] w fun e w' => e = .returned (.tuple #[.complex .f64 0 0, .bool false]) ∧ w = w' := by
  have h := mul_yes 2097152 0 1048576 0 (Lib.hid (by decide)) (Lib.hid (by decide)) (Lib.hid (by decide)) (Lib.hid (by decide)) w
  unfold ans at h
  rw [if_neg (by decide), lits.2.2.2.1, lits.2.2.2.2.1, c_zero] at h; exact h
theorem k_parts1 (w : World) : Calls Try.prog 14 #[.complex .f64 4602678819172646912 0] w fun e w' => e = .returned (.tuple #[.int .i64 0, .int .i64 0, .bool false]) ∧ w = w' :=
  parts_no _ _ (Lib.hid (by decide)) (Lib.hid (by decide)) (Lib.hid (by rw [half_not]; rfl)) w
theorem k_parts2 (w : World) : Calls Try.prog 14 #[.complex .f64 13837309855095848960 4616189618054758400] w fun e w' => e = .returned (.tuple #[.int .i64 (-3), .int .i64 4, .bool true]) ∧ w = w' := by
  have h := parts_yes (-3) 4 (Lib.hid (by decide)) (Lib.hid (by decide)) w
  rw [lits.2.2.2.2.2.1, lits.2.2.2.2.2.2.1] at h; exact h
theorem k_word1 (w : World) : Calls Try.prog 15 #[.complex .f64 13830554455654793216 0] w fun e w' => e = .returned (.tuple #[.int .u64 0, .bool false]) ∧ w = w' := by
  have h := word_not (-1) 0 (Lib.hid (by decide)) (Lib.hid (by decide)) (Lib.hid (by decide)) w
  rw [c_minus_one, c_zero] at h; exact h
theorem k_word2 (w : World) : Calls Try.prog 15 #[.complex .f64 4607182418800017408 4611686018427387904] w fun e w' => e = .returned (.tuple #[.int .u64 8589934593, .bool true]) ∧ w = w' := by
  have h := word_yes 1 2 (Lib.hid (by decide)) (Lib.hid (by decide)) w
  rw [c_one, c_two] at h; exact h
theorem k_norm1 (w : World) : Calls Try.prog 16 #[.complex .f64 4613937818241073152 4616189618054758400] w fun e w' => e = .returned (.int .i64 25) ∧ w = w' := by
  have h := norm_ok 3 4 25 (Lib.hid (by decide)) (Lib.hid (by decide)) (Lib.hid (by decide)) w
  rw [c_three, lits.2.2.2.2.2.2.1] at h; exact h
theorem k_norm2 (w : World) : Calls Try.prog 16 #[.complex .f64 4742290407625326592 0] w fun e w' => e = .returned (.int .i64 (-1)) ∧ w = w' :=
  norm_no _ _ (Lib.hid (by decide)) (Lib.hid (by decide)) (Lib.hid (by rw [near_big]; rfl)) w
theorem k_turn1 (w : World) : Calls Try.prog 17 #[.complex .f64 4611686018427387904 4613937818241073152, .int .i64 1] w fun e w' => e = .returned (.complex .f64 13837309855095848960 4611686018427387904) ∧ Below w.heap.size w w' := by
  have h := turn_is 2 3 1 (-3) 2 (Lib.hid (by decide)) (Lib.hid (by decide)) (Lib.hid (by decide)) (Lib.hid (by decide)) w
  rw [c_three, c_two, lits.2.2.2.2.2.1] at h; exact h
theorem k_turn2 (w : World) : Calls Try.prog 17 #[.complex .f64 4611686018427387904 4613937818241073152, .int .i64 (-1)] w fun e w' => e = .returned (.complex .f64 4613937818241073152 13835058055282163712) ∧ Below w.heap.size w w' := by
  have h := turn_is 2 3 (-1) 3 (-2) (Lib.hid (by decide)) (Lib.hid (by decide)) (Lib.hid (by decide)) (Lib.hid (by decide)) w
  rw [c_three, c_two, lits.2.2.2.2.2.2.2.1] at h; exact h
theorem k_turn3 (w : World) : Calls Try.prog 17 #[.complex .f64 4611686018427387904 4613937818241073152, .int .i64 6] w fun e w' => e = .returned (.complex .f64 13835058055282163712 13837309855095848960) ∧ Below w.heap.size w w' := by
  have h := turn_is 2 3 6 (-2) (-3) (Lib.hid (by decide)) (Lib.hid (by decide)) (Lib.hid (by decide)) (Lib.hid (by decide)) w
  rw [c_three, c_two, lits.2.2.2.2.2.2.2.1, lits.2.2.2.2.2.1] at h; exact h
theorem k_turn4 (w : World) : Calls Try.prog 17 #[.complex .f64 4602678819172646912 0, .int .i64 1] w fun e w' => e = .returned (.complex .f64 0 0) ∧ w = w' :=
  turn_no _ _ _ (Lib.hid (by decide)) (Lib.hid (by decide)) (Lib.hid (by rw [half_not]; rfl)) w

theorem spin_nil (w : World) : Calls Try.prog 18 #[.slice none 0 0] w fun e w' => e = .returned (.complex .f64 0 0) ∧ Below w.heap.size w w' := by
  have h := spin_any none 0 [] w (by decide) (fun h => by simp at h) (fun x hx => by cases hx)
  have e : spin [] = (0, 0) := rfl
  rw [e] at h
  simp only [c_zero] at h
  exact h
theorem spin_word (x : Int) (p q : Nat) (hx : Wd x) (hp : F (spin [x]).1 = p) (hq : F (spin [x]).2 = q) (w : World) (b cap : Nat) (hc : w.cell? ⟨b, 0, none⟩ = some (.int .u64 x)) (hb : b < w.heap.size) :
    Calls Try.prog 18 #[.slice (some ⟨b, 0, none⟩) 1 cap] w fun e w' => e = .returned (.complex .f64 p q) ∧ Below w.heap.size w w' := by
  have h := spin_any (some ⟨b, 0, none⟩) cap [x] w (by show 1 ≤ maxLen; decide) (fun _ => ⟨_, rfl, hb, fun j hj => by
    have : j = 0 := by simp at hj; omega
    subst this; exact hc⟩) (fun y hy => by simp at hy; subst hy; exact hx)
  rw [hp, hq] at h
  exact h
theorem spin_two (x y : Int) (p q : Nat) (hx : Wd x) (hy : Wd y) (hp : F (spin [x, y]).1 = p) (hq : F (spin [x, y]).2 = q) (w : World) (b cap : Nat) (hc : w.cell? ⟨b, 0, none⟩ = some (.int .u64 x)) (hd : w.cell? ⟨b, 1, none⟩ = some (.int .u64 y)) (hb : b < w.heap.size) :
    Calls Try.prog 18 #[.slice (some ⟨b, 0, none⟩) 2 cap] w fun e w' => e = .returned (.complex .f64 p q) ∧ Below w.heap.size w w' := by
  have h := spin_any (some ⟨b, 0, none⟩) cap [x, y] w (by show 2 ≤ maxLen; decide) (fun _ => ⟨_, rfl, hb, fun j hj => by
    have : j = 0 ∨ j = 1 := by simp at hj; omega
    rcases this with rfl | rfl
    · exact hc
    · exact hd⟩) (fun z hz => by
      simp at hz
      rcases hz with rfl | rfl
      · exact hx
      · exact hy)
  rw [hp, hq] at h
  exact h
theorem k_spin1 (w : World) :
    Calls Try.prog 18 #[.slice (some ⟨w.heap.size, 0, none⟩) 2 2] (w.alloc (.cells #[.int .u64 0, .int .u64 1] 30)) fun e w' => e = .returned (.complex .f64 4607182418800017408 0) ∧ Below w.heap.size w w' :=
  (spin_two 0 1 _ _ (by unfold Wd; omega) (by unfold Wd; omega) (by decide +kernel) (by decide +kernel) _ w.heap.size 2 (by go_simp) (by go_simp) (by simp)).mono
    fun _ _ ⟨h, hb⟩ => ⟨h, ((Below.refl _ _).alloc (Nat.le_refl _) _).trans (hb.mono (by simp))⟩
theorem k_spin2 (w : World) :
    Calls Try.prog 18 #[.slice (some ⟨w.heap.size, 0, none⟩) 2 2] (w.alloc (.cells #[.int .u64 1, .int .u64 0] 30)) fun e w' => e = .returned (.complex .f64 0 4607182418800017408) ∧ Below w.heap.size w w' :=
  (spin_two 1 0 _ _ (by unfold Wd; omega) (by unfold Wd; omega) (by decide +kernel) (by decide +kernel) _ w.heap.size 2 (by go_simp) (by go_simp) (by simp)).mono
    fun _ _ ⟨h, hb⟩ => ⟨h, ((Below.refl _ _).alloc (Nat.le_refl _) _).trans (hb.mono (by simp))⟩
theorem k_spin3 (w : World) :
    Calls Try.prog 18 #[.slice (some ⟨w.heap.size, 0, none⟩) 1 1] (w.alloc (.cells #[.int .u64 65536] 30)) fun e w' => e = .returned (.complex .f64 0 4607182418800017408) ∧ Below w.heap.size w w' :=
  (spin_word 65536 _ _ (by unfold Wd; omega) (by decide +kernel) (by decide +kernel) _ w.heap.size 1 (by go_simp) (by simp)).mono
    fun _ _ ⟨h, hb⟩ => ⟨h, ((Below.refl _ _).alloc (Nat.le_refl _) _).trans (hb.mono (by simp))⟩
theorem k_spin4 (w : World) :
    Calls Try.prog 18 #[.slice (some ⟨w.heap.size, 0, none⟩) 1 1] (w.alloc (.cells #[.int .u64 4294967296] 30)) fun e w' => e = .returned (.complex .f64 4696837163864555520 0) ∧ Below w.heap.size w w' :=
  (spin_word 4294967296 _ _ (by unfold Wd; omega) (by decide +kernel) (by decide +kernel) _ w.heap.size 1 (by go_simp) (by simp)).mono
    fun _ _ ⟨h, hb⟩ => ⟨h, ((Below.refl _ _).alloc (Nat.le_refl _) _).trans (hb.mono (by simp))⟩

theorem neg_top (P : Program) (w : World) : (Op.unary UnOp.neg (.float .f64 4787326403894837248)).run P w = .ok (.float .f64 14010698440749613056) w := by kernel_rfl

set_option maxRecDepth 100000 in
set_option maxHeartbeats 4000000 in
/-- GaussKnown. -/
theorem known_walk (w : World) : Calls Try.prog 3 #[] w fun e w' => e = .returned (.bool true) ∧ Below w.heap.size w w' := by
  have q0 : (FloatKind.f64.format.order 0 0 == some .eq) = true := by decide +kernel
  have q1 : (FloatKind.f64.format.order 4607182418800017408 4607182418800017408 == some .eq) = true := by decide +kernel
  have q2 : (FloatKind.f64.format.order 4787326403894837248 4787326403894837248 == some .eq) = true := by decide +kernel
  have q3 : (FloatKind.f64.format.order 14010698440749613056 14010698440749613056 == some .eq) = true := by decide +kernel
  have q4 : (FloatKind.f64.format.order 13837309855095848960 13837309855095848960 == some .eq) = true := by decide +kernel
  have q5 : (FloatKind.f64.format.order 4611686018427387904 4611686018427387904 == some .eq) = true := by decide +kernel
  have q6 : (FloatKind.f64.format.order 4613937818241073152 4613937818241073152 == some .eq) = true := by decide +kernel
  have q7 : (FloatKind.f64.format.order 13835058055282163712 13835058055282163712 == some .eq) = true := by decide +kernel
  have q8 : (FloatKind.f64.format.order 4696837163864555520 4696837163864555520 == some .eq) = true := by decide +kernel
  have hn := neg_top Try.prog
  have HB := Lib.hid (Below.refl w.heap.size w)
  go_enter Try.func3, Try.ntmps3
  go_wp2_with (first
    | (go_at_call 10; refine (awake_any _).mono ?_; rintro e w' ⟨rfl, hb⟩; replace HB := Lib.hid (HB.out.trans (hb.mono HB.out.size)); clear hb)
    | (go_at_call 11; first
      | ((with_reducible refine (k_of1 _).mono ?_); rintro e w' ⟨rfl, rfl⟩)
      | ((with_reducible refine (k_of2 _).mono ?_); rintro e w' ⟨rfl, rfl⟩)
      | ((with_reducible refine (k_of3 _).mono ?_); rintro e w' ⟨rfl, rfl⟩))
    | (go_at_call 12; refine (k_add _).mono ?_; rintro e w' ⟨rfl, rfl⟩)
    | (go_at_call 13; first
      | ((with_reducible refine (k_mul1 _).mono ?_); rintro e w' ⟨rfl, rfl⟩)
      | ((with_reducible refine (k_mul2 _).mono ?_); rintro e w' ⟨rfl, rfl⟩)
      | ((with_reducible refine (k_mul3 _).mono ?_); rintro e w' ⟨rfl, rfl⟩))
    | (go_at_call 14; first
      | ((with_reducible refine (k_parts1 _).mono ?_); rintro e w' ⟨rfl, rfl⟩)
      | ((with_reducible refine (k_parts2 _).mono ?_); rintro e w' ⟨rfl, rfl⟩))
    | (go_at_call 15; first
      | ((with_reducible refine (k_word1 _).mono ?_); rintro e w' ⟨rfl, rfl⟩)
      | ((with_reducible refine (k_word2 _).mono ?_); rintro e w' ⟨rfl, rfl⟩))
    | (go_at_call 16; first
      | ((with_reducible refine (k_norm1 _).mono ?_); rintro e w' ⟨rfl, rfl⟩)
      | ((with_reducible refine (k_norm2 _).mono ?_); rintro e w' ⟨rfl, rfl⟩))
    | (go_at_call 17; first
      | ((with_reducible refine (k_turn1 _).mono ?_); rintro e w' ⟨rfl, hb⟩; replace HB := Lib.hid (HB.out.trans (hb.mono HB.out.size)); clear hb)
      | ((with_reducible refine (k_turn2 _).mono ?_); rintro e w' ⟨rfl, hb⟩; replace HB := Lib.hid (HB.out.trans (hb.mono HB.out.size)); clear hb)
      | ((with_reducible refine (k_turn3 _).mono ?_); rintro e w' ⟨rfl, hb⟩; replace HB := Lib.hid (HB.out.trans (hb.mono HB.out.size)); clear hb)
      | ((with_reducible refine (k_turn4 _).mono ?_); rintro e w' ⟨rfl, rfl⟩))
    | (go_at_call 18; first
      | ((with_reducible refine (spin_nil _).mono ?_); rintro e w' ⟨rfl, hb⟩; replace HB := Lib.hid (HB.out.trans (hb.mono HB.out.size)); clear hb)
      | ((with_reducible refine (k_spin1 _).mono ?_); rintro e w' ⟨rfl, hb⟩; replace HB := Lib.hid (HB.out.trans (hb.mono HB.out.size)); clear hb)
      | ((with_reducible refine (k_spin2 _).mono ?_); rintro e w' ⟨rfl, hb⟩; replace HB := Lib.hid (HB.out.trans (hb.mono HB.out.size)); clear hb)
      | ((with_reducible refine (k_spin3 _).mono ?_); rintro e w' ⟨rfl, hb⟩; replace HB := Lib.hid (HB.out.trans (hb.mono HB.out.size)); clear hb)
      | ((with_reducible refine (k_spin4 _).mono ?_); rintro e w' ⟨rfl, hb⟩; replace HB := Lib.hid (HB.out.trans (hb.mono HB.out.size)); clear hb)))
  go_ret
  exact ⟨rfl, HB.out⟩
end Go.Proofs.Ytpbekngchhafcaa
