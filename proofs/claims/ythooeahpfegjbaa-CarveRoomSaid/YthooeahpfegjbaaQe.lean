/-
  The walks of the reference's held, Both, Less and Within. No condition.
-/
import Derived.Test.YthooeahpfegjbaaQb
namespace Go.Proofs.Ythooeahpfegjbaa
open Go.RowKit

/-- both's of the first i bits -/
def pland (x y : Nat) : Nat → Nat
  | 0 => 0
  | i + 1 => pland x y i + if x / 2 ^ i % 2 = 1 ∧ y / 2 ^ i % 2 = 1 then 2 ^ i else 0
theorem pland_all : ∀ x < 8, ∀ y < 8, pland x y 3 = land3 x y := by decide +kernel
theorem pland_lt : ∀ x < 8, ∀ y < 8, ∀ i < 4, pland x y i < 8 := by decide +kernel
theorem pland_one : ∀ x < 8, ∀ y < 8, pland x y 1 = pland x y 0 + if x % 2 = 1 ∧ y % 2 = 1 then 1 else 0 := by decide +kernel
theorem pland_two : ∀ x < 8, ∀ y < 8, pland x y 2 = pland x y 1 + if x / 2 % 2 = 1 ∧ y / 2 % 2 = 1 then 2 else 0 := by decide +kernel
theorem pland_three : ∀ x < 8, ∀ y < 8, pland x y 3 = pland x y 2 + if x / 4 % 2 = 1 ∧ y / 4 % 2 = 1 then 4 else 0 := by decide +kernel
theorem odd1 : ∀ x < 8, ((wrap64 ((x : Nat) : Int)).tmod 2 == 1) = decide (x % 2 = 1) := by decide +kernel
theorem odd2 : ∀ x < 8, ((wrap64 (((x : Nat) : Int) / 2)).tmod 2 == 1) = decide (x / 2 % 2 = 1) := by decide +kernel
theorem odd4 : ∀ x < 8, ((wrap64 (((x : Nat) : Int) / 4)).tmod 2 == 1) = decide (x / 4 % 2 = 1) := by decide +kernel

def BothRel (W : World) (x y : Nat) (n : Nat) (p q : Value) (wr : World) : Prop := ∃ (i z : Nat) (k : Int), n + i = 3 ∧ (i = 0 ∧ k = 1 ∨ i = 1 ∧ k = 2 ∨ i = 2 ∧ k = 4 ∨ i = 3 ∧ k = 8) ∧ z = pland x y i ∧ z < 8 ∧ p = .int .i64 (z : Int) ∧ q = .int .i64 k ∧ W = wr

end Go.Proofs.Ythooeahpfegjbaa
