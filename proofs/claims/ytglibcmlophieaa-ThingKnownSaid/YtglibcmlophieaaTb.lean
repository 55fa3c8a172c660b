/-
  The walks of package tag's inWord and bits. Condition of bits: the field is one of a word.
-/
import Derived.Test.YtglibcmlophieaaTa
import Derived.WalkKit
import Derived.WalkSpells
import Derived.WalkLawsBesides
import Derived.Lib.Hide
import Derived.Below
import Derived.Deep.CutBlock
import Derived.Deep.LoopGhost
import Derived.Deep.RegionHeld3
import Derived.Deep.DeepCutAuto
import Derived.Deep.CutRange
import Derived.Deep.QuietTactic
import Derived.BigQuiet
import Derived.StillTailTactics
import Derived.Laws.Shifts
import Derived.Laws.Bits64b
namespace Go.Proofs.Ytglibcmlophieaa
open Go.RowKit

def Fd.agg (x : Fd) : Value := .agg #[.int .i64 x.f, .int .i64 x.n]
theorem below_draws {B : Nat} {a w : World} (h : Below B a w) (n : Nat) : Below B a (w.drewN n) := h.trans ⟨rfl, rfl, rfl, Nat.le_refl _, fun _ _ => rfl⟩

theorem bits_words (f n : Nat) (h1 : 1 ≤ n) (h2 : f + n ≤ 64) : IntKind.u64.wrap ((18446744073709551615 : Int) / 2 ^ (64 - n) * 2 ^ f) = (((⟨f, n⟩ : Fd).bits : Nat) : Int) := by
  have e3 : (18446744073709551615 : Int) / 2 ^ (64 - n) = ((2 ^ n - 1 : Nat) : Int) := by
    have h : (18446744073709551615 : Nat) / 2 ^ (64 - n) = 2 ^ n - 1 := by
      apply Nat.eq_of_testBit_eq
      intro j
      rw [show (18446744073709551615 : Nat) = 2 ^ 64 - 1 by decide, Nat.testBit_div_two_pow, Nat.testBit_two_pow_sub_one, Nat.testBit_two_pow_sub_one]
      have : (j + (64 - n) < 64) ↔ (j < n) := by omega
      simp [this]
    rw [← h]
    simp
  rw [e3]
  have e4 : ((2 ^ n - 1 : Nat) : Int) * 2 ^ f = (((⟨f, n⟩ : Fd).bits : Nat) : Int) := by
    show _ = (((2 ^ n - 1) * 2 ^ f : Nat) : Int)
    rw [Int.natCast_mul]
    simp
  rw [e4, IntKind.wrap_u64]
  have := Fd.bits_le (x := ⟨f, n⟩) (inw_iff.2 ⟨by simp, by simp; omega, by simp; omega, by simp; omega⟩)
  unfold top at this
  omega

set_option maxHeartbeats 1000000 in
theorem bits_any (f n : Nat) (h1 : 1 ≤ n) (h2 : f + n ≤ 64) (w : World) :
    Calls Try.prog 35 #[(⟨f, n⟩ : Fd).agg] w fun e w' => e = .returned (.int .u64 (((⟨f, n⟩ : Fd).bits : Nat) : Int)) ∧ Below w.heap.size w w' := by
  unfold Fd.agg
  have HB := Lib.hid (bits_words f n h1 h2)
  have h3 : (0 : Int) ≤ 64 - (n : Int) := by omega
  go_enter Try.func35, Try.ntmps35
  go_wp2_with fail
  go_quiet (fail)
  go_wp2
  go_ret
  rw [HB.out]
  exact ⟨rfl, below_draws ((Below.refl _ _).alloc (Nat.le_refl _) _) _⟩

set_option maxHeartbeats 1000000 in
theorem inw_any (x : Fd) (w : World) :
    Calls Try.prog 36 #[x.agg] w fun e w' => e = .returned (.bool x.inw) ∧ Below w.heap.size w w' := by
  obtain ⟨f, n⟩ := x
  unfold Fd.agg Fd.inw
  have HW : Hid (∀ ob, Below w.heap.size w (w.alloc ob)) := Lib.hid fun ob => (Below.refl _ _).alloc (Nat.le_refl _) _
  by_cases h1 : 0 ≤ f
  · by_cases h2 : f < 64
    · by_cases h3 : 1 ≤ n
      · go_enter Try.func36, Try.ntmps36
        go_wp2
        go_ret
        exact ⟨by simp [h1, h2, h3], HW.out _⟩
      · go_enter Try.func36, Try.ntmps36
        go_wp2
        go_ret
        exact ⟨by simp; omega, HW.out _⟩
    · go_enter Try.func36, Try.ntmps36
      go_wp2
      go_ret
      exact ⟨by simp; omega, HW.out _⟩
  · go_enter Try.func36, Try.ntmps36
    go_wp2
    go_ret
    exact ⟨by simp; omega, HW.out _⟩
end Go.Proofs.Ytglibcmlophieaa
