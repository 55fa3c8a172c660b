/-
  The walks of Word of package gauss and of the law GaussWords. Condition of GaussWords: a and b are of uint32.
-/
import Derived.Test.YteadkcekoccmdaaWf
namespace Go.Proofs.Yteadkcekoccmdaa
open Go.RowKit Flo

/-- in the range of a part that goes into a word -/
def inW (p : Int) : Bool := decide (0 ≤ p) && decide (p ≤ 4294967295)
theorem inW_yes {p : Int} (h : inW p = true) : 0 ≤ p ∧ p ≤ 4294967295 := by
  unfold inW at h
  rw [Bool.and_eq_true] at h
  exact ⟨of_decide_eq_true h.1, of_decide_eq_true h.2⟩
theorem inW_mk {p : Int} (h1 : 0 ≤ p) (h2 : p ≤ 4294967295) : inW p = true := by
  unfold inW
  rw [Bool.and_eq_true]
  exact ⟨decide_eq_true h1, decide_eq_true h2⟩
theorem within_W (p : Int) (b : Bool) (h : Hid (inW p = b)) (w : World) :
    Calls Try.prog 34 #[.int .i64 p, .int .i64 0, .int .i64 4294967295] w fun e w' => e = .returned (.bool b) ∧ w = w' :=
  within_is p _ _ b (Lib.hid h.out) w

theorem or_parts (a b : Int) (ha : 0 ≤ a ∧ a ≤ 4294967295) (hb : 0 ≤ b ∧ b ≤ 4294967295) : bits .or .u64 (b * 4294967296) a = b * 4294967296 + a := by
  obtain ⟨m, rfl⟩ := Int.eq_ofNat_of_zero_le ha.1
  obtain ⟨n, rfl⟩ := Int.eq_ofNat_of_zero_le hb.1
  unfold bits
  have hm : m < 2 ^ 32 := by omega
  have e : (BitVec.ofInt IntKind.u64.bits ((n : Int) * 4294967296) ||| BitVec.ofInt IntKind.u64.bits (m : Int)).toNat = n * 4294967296 + m := by
    rw [BitVec.toNat_or, BitVec.toNat_ofInt, BitVec.toNat_ofInt]
    have h1 : (((n : Int) * 4294967296) % ((2 ^ IntKind.u64.bits : Nat) : Int)).toNat = n * 4294967296 := by
      show (((n : Int) * 4294967296) % 18446744073709551616).toNat = _
      omega
    have h2 : ((m : Int) % ((2 ^ IntKind.u64.bits : Nat) : Int)).toNat = m := by
      show ((m : Int) % 18446744073709551616).toNat = _
      omega
    rw [h1, h2]
    have := Nat.shiftLeft_add_eq_or_of_lt hm n
    rw [Nat.shiftLeft_eq] at this
    exact this.symm
  simp only [e]
  unfold IntKind.wrap
  simp only [show IntKind.u64.signed = false from rfl, show IntKind.u64.bits = 64 from rfl, Bool.false_and, Bool.false_eq_true, if_false]
  omega

set_option maxHeartbeats 400000 in
theorem word_yes (a b : Int) (ha : Hid (inW a = true)) (hb : Hid (inW b = true)) (w : World) :
    Calls Try.prog 28 #[.complex .f64 (F a) (F b)] w fun e w' => e = .returned (.tuple #[.int .u64 (b * 4294967296 + a), .bool true]) ∧ w = w' := by
  have h1 := inW_yes ha.out
  have h2 := inW_yes hb.out
  have TA := Lib.hid (inT_mk (p := a) (by unfold top; omega) (by unfold top; omega))
  have TB := Lib.hid (inT_mk (p := b) (by unfold top; omega) (by unfold top; omega))
  have ho := or_parts a b h1 h2
  obtain ⟨a0, a1⟩ := h1
  obtain ⟨b0, b1⟩ := h2
  go_enter Try.func28, Try.ntmps28
  go_wp2_with (first | (go_at_call 33; refine (parts_yes a b TA TB _).mono ?_; rintro e w' ⟨rfl, rfl⟩) | (go_at_call 34; first | ((with_reducible refine (within_W a _ ha _).mono ?_); rintro e w' ⟨rfl, rfl⟩) | ((with_reducible refine (within_W b _ hb _).mono ?_); rintro e w' ⟨rfl, rfl⟩)))
  go_ret2
  exact ⟨rfl, rfl⟩

set_option maxHeartbeats 400000 in
theorem word_not (a b : Int) (ha : Hid (inT a = true)) (hb : Hid (inT b = true)) (h : Hid ((inW a && inW b) = false)) (w : World) :
    Calls Try.prog 28 #[.complex .f64 (F a) (F b)] w fun e w' => e = .returned (.tuple #[.int .u64 0, .bool false]) ∧ w = w' := by
  have h' := h.out
  cases h1 : inW a
  · have ga := Lib.hid h1
    clear h1 h'
    go_enter Try.func28, Try.ntmps28
    go_wp2_with (first | (go_at_call 33; refine (parts_yes a b ha hb _).mono ?_; rintro e w' ⟨rfl, rfl⟩) | (go_at_call 34; ((with_reducible refine (within_W a _ ga _).mono ?_); rintro e w' ⟨rfl, rfl⟩)))
    go_ret2
    exact ⟨rfl, rfl⟩
  · rw [h1, Bool.true_and] at h'
    have ga := Lib.hid h1
    have gb := Lib.hid h'
    clear h1 h'
    go_enter Try.func28, Try.ntmps28
    go_wp2_with (first | (go_at_call 33; refine (parts_yes a b ha hb _).mono ?_; rintro e w' ⟨rfl, rfl⟩) | (go_at_call 34; first | ((with_reducible refine (within_W a _ ga _).mono ?_); rintro e w' ⟨rfl, rfl⟩) | ((with_reducible refine (within_W b _ gb _).mono ?_); rintro e w' ⟨rfl, rfl⟩)))
    go_ret2
    exact ⟨rfl, rfl⟩

set_option maxHeartbeats 400000 in
theorem word_no (a b : Nat) (ha : Hid (a < 2 ^ 64)) (hb : Hid (b < 2 ^ 64)) (h : Hid ((wh a && wh b) = false)) (w : World) :
    Calls Try.prog 28 #[.complex .f64 a b] w fun e w' => e = .returned (.tuple #[.int .u64 0, .bool false]) ∧ w = w' := by
  go_enter Try.func28, Try.ntmps28
  go_wp2_with (go_at_call 33; refine (parts_no a b ha hb h _).mono ?_; rintro e w' ⟨rfl, rfl⟩)
  go_ret2
  exact ⟨rfl, rfl⟩

end Go.Proofs.Yteadkcekoccmdaa
