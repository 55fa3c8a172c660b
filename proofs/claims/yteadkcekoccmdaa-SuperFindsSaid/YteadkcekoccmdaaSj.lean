/-
  Plain facts: a word of which one of the four parts is put anew. No condition.
-/
import Derived.Test.YteadkcekoccmdaaSi
import Derived.Laws.Bits64b
import Derived.Laws.BitsAllLaws
namespace Go.Proofs.Yteadkcekoccmdaa
open Go.RowKit

theorem ptest (X j n : Nat) : (X / 2 ^ (16 * j) % 2 ^ 16).testBit n = (decide (n < 16) && X.testBit (16 * j + n)) := by
  rw [Nat.testBit_mod_two_pow, Nat.testBit_div_two_pow, Nat.add_comm]
theorem pt_nat {X : Nat} (h : X < 18446744073709551616) (j : Nat) (hj : j < 4) : pt (X : Int) j = ((X / 2 ^ (16 * j) % 2 ^ 16 : Nat) : Int) := by
  rcases (show j = 0 ∨ j = 1 ∨ j = 2 ∨ j = 3 by omega) with rfl | rfl | rfl | rfl <;> (unfold pt; simp only; omega)
/-- put anew -/
def mixN (X i Z : Nat) : Nat := (X &&& (18446744073709551615 - 65535 * 2 ^ (16 * i))) ||| Z * 2 ^ (16 * i)
theorem mask_test (i n : Nat) (hi : i < 4) : (18446744073709551615 - 65535 * 2 ^ (16 * i)).testBit n = (decide (n < 64) && !decide (16 * i ≤ n ∧ n < 16 * i + 16)) := by
  have hC : 65535 * 2 ^ (16 * i) < 2 ^ 64 := by rcases (show i = 0 ∨ i = 1 ∨ i = 2 ∨ i = 3 by omega) with rfl | rfl | rfl | rfl <;> decide
  have h := Nat.testBit_two_pow_sub_succ hC n
  have e : 2 ^ 64 - (65535 * 2 ^ (16 * i) + 1) = 18446744073709551615 - 65535 * 2 ^ (16 * i) := by omega
  rw [e] at h
  rw [h]
  have hb : (65535 * 2 ^ (16 * i)).testBit n = decide (16 * i ≤ n ∧ n < 16 * i + 16) := by
    rw [← Nat.shiftLeft_eq, Nat.testBit_shiftLeft, show (65535 : Nat) = 2 ^ 16 - 1 from rfl, Nat.testBit_two_pow_sub_one]
    by_cases h1 : 16 * i ≤ n
    · simp [h1]; omega
    · simp [h1]
  rw [hb]
theorem mix_test (X i Z n : Nat) (hX : X < 18446744073709551616) (hZ : Z < 65536) (hi : i < 4) (ho : n < 16 * i ∨ 16 * i + 16 ≤ n) : (mixN X i Z).testBit n = X.testBit n := by
  have hz : (Z * 2 ^ (16 * i)).testBit n = false := by
    rw [← Nat.shiftLeft_eq, Nat.testBit_shiftLeft]
    rcases ho with h | h
    · simp [show ¬ 16 * i ≤ n by omega]
    · rw [Nat.testBit_lt_two_pow (Nat.lt_of_lt_of_le (show Z < 2 ^ 16 by omega) (Nat.pow_le_pow_right (by decide) (show 16 ≤ n - 16 * i by omega)))]
      simp
  unfold mixN
  rw [Nat.testBit_or, Nat.testBit_and, mask_test i n hi, hz, Bool.or_false]
  by_cases h64 : n < 64
  · have : decide (16 * i ≤ n ∧ n < 16 * i + 16) = false := decide_eq_false (by omega)
    rw [this]
    simp [h64]
  · have : X.testBit n = false := Nat.testBit_lt_two_pow (Nat.lt_of_lt_of_le (show X < 2 ^ 64 by omega) (Nat.pow_le_pow_right (by decide) (by omega)))
    rw [this]
    simp
theorem mul_lt64 {Z i : Nat} (hZ : Z < 65536) (hi : i < 4) : Z * 2 ^ (16 * i) < 2 ^ 64 := by
  rcases (show i = 0 ∨ i = 1 ∨ i = 2 ∨ i = 3 by omega) with rfl | rfl | rfl | rfl <;> omega
theorem mix_lt (X i Z : Nat) (hX : X < 18446744073709551616) (hZ : Z < 65536) (hi : i < 4) : mixN X i Z < 18446744073709551616 := by
  have h1 : X &&& (18446744073709551615 - 65535 * 2 ^ (16 * i)) < 2 ^ 64 := Nat.lt_of_le_of_lt Nat.and_le_left (by omega)
  have h2 := mul_lt64 hZ hi
  have := Nat.or_lt_two_pow h1 h2
  unfold mixN
  omega
theorem mix_apart (X i Z : Nat) (hX : X < 18446744073709551616) (hZ : Z < 65536) (hi : i < 4) (hne : (X : Int) ≠ (mixN X i Z : Int)) : Apart (X : Int) (mixN X i Z : Int) i := by
  refine ⟨hne, hi, fun j hj hji => ?_⟩
  rw [pt_nat hX j hj, pt_nat (mix_lt X i Z hX hZ hi) j hj]
  refine congrArg (fun n : Nat => (n : Int)) (Nat.eq_of_testBit_eq fun n => ?_)
  rw [ptest, ptest]
  by_cases hn : n < 16
  · rw [mix_test X i Z (16 * j + n) hX hZ hi (by omega)]
  · simp [hn]

/-- how the walk spells it -/
def mix (x : Int) (i : Nat) (z : Int) : Int := bits .or .u64 (bits .andNot .u64 x (((65535 * 2 ^ (16 * i) : Nat) : Int))) (z * ((2 ^ (16 * i) : Nat) : Int))
theorem mix_is {x z : Int} {i : Nat} (hx : Wd x) (hz : 0 ≤ z ∧ z < 65536) (hi : i < 4) : Wd (mix x i z) ∧ (x ≠ mix x i z → Apart x (mix x i z) i) := by
  unfold Wd at hx
  obtain ⟨X, rfl⟩ := Int.eq_ofNat_of_zero_le hx.1
  obtain ⟨Z, rfl⟩ := Int.eq_ofNat_of_zero_le hz.1
  have hX : X < 18446744073709551616 := by omega
  have hZ : Z < 65536 := by omega
  have hC : 65535 * 2 ^ (16 * i) < 2 ^ 64 := by rcases (show i = 0 ∨ i = 1 ∨ i = 2 ∨ i = 3 by omega) with rfl | rfl | rfl | rfl <;> decide
  have hZ2 : Z * 2 ^ (16 * i) < 18446744073709551616 := by
    have := mul_lt64 hZ hi
    omega
  have h1 : X &&& (18446744073709551615 - 65535 * 2 ^ (16 * i)) < 18446744073709551616 := Nat.lt_of_le_of_lt Nat.and_le_left hX
  have e : mix (X : Int) i (Z : Int) = (mixN X i Z : Int) := by
    unfold mix mixN
    rw [u64_andNot_nat X _ hX hC, ← Int.natCast_mul, bits_or_u64_nat _ _ h1 hZ2]
  rw [e]
  exact ⟨⟨by omega, by have := mix_lt X i Z hX hZ hi; omega⟩, fun h => mix_apart X i Z hX hZ hi h⟩
end Go.Proofs.Yteadkcekoccmdaa
