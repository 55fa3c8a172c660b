/-
  The walks of package right's within, Good, Badge, counted, Both, Less and Within, over rights as numbers from 0 to 7. No condition.
-/
import Derived.Test.YthooeahpfegjbaaGe
import Derived.WalkKit
import Derived.WalkSpells
import Derived.WalkLawsBesides
import Derived.Lib.Hide
import Derived.Below
import Derived.Deep.CutBlock
import Derived.Deep.LoopGhost
import Derived.Deep.RegionHeld3
import Derived.Deep.DeepCutAuto
import Derived.Deep.CutRange
import Derived.Deep.QuietTactic
import Derived.BigQuiet
import Derived.StillTailTactics
import Derived.Laws.Shifts
import Derived.Laws.Bits64b
namespace Go.Proofs.Ythooeahpfegjbaa
open Go.RowKit

/-- may a number from 0 to m be -/
def inr (x m : Int) : Bool := decide (0 ≤ x) && decide (x ≤ m)
/-- what rights count as -/
def held (a : Int) : Nat := if inr a 7 = true then a.toNat else 0
/-- both's, one's without the other's, by three bits -/
def land3 (x y : Nat) : Nat := x % 2 * (y % 2) + 2 * (x / 2 % 2 * (y / 2 % 2)) + 4 * (x / 4 % 2 * (y / 4 % 2))
def less3 (x y : Nat) : Nat := x - land3 x y

theorem held_lt (a : Int) : held a < 8 := by
  unfold held
  split
  · next h =>
    unfold inr at h
    simp only [Bool.and_eq_true, decide_eq_true_eq] at h
    omega
  · omega
theorem held_yes {a : Int} (h : inr a 7 = true) : ((held a : Nat) : Int) = a := by
  unfold held
  rw [if_pos h]
  unfold inr at h
  simp only [Bool.and_eq_true, decide_eq_true_eq] at h
  omega
theorem held_no {a : Int} (h : inr a 7 = false) : held a = 0 := by
  unfold held
  rw [h]
  rfl
theorem held_self {x : Nat} (h : x < 8) : held (x : Int) = x := by
  have : inr (x : Int) 7 = true := by
    unfold inr
    simp only [Bool.and_eq_true, decide_eq_true_eq]
    omega
  have := held_yes this
  omega
theorem inr_self {x : Nat} (h : x < 8) : inr (x : Int) 7 = true := by
  unfold inr
  simp only [Bool.and_eq_true, decide_eq_true_eq]
  omega
theorem inr_held {a : Int} (h : inr a 7 = true) : ∃ x : Nat, x < 8 ∧ a = (x : Int) := ⟨held a, held_lt a, (held_yes h).symm⟩

theorem and_table : ∀ x < 8, ∀ y < 8, bits .and .i64 ((x : Nat) : Int) ((y : Nat) : Int) = ((land3 x y : Nat) : Int) := by decide +kernel
theorem less_table : ∀ x < 8, ∀ y < 8, bits .andNot .i64 ((x : Nat) : Int) ((y : Nat) : Int) = ((less3 x y : Nat) : Int) := by decide +kernel
theorem land3_lt : ∀ x < 8, ∀ y < 8, land3 x y < 8 := by decide +kernel
theorem land3_le : ∀ x < 8, ∀ y < 8, land3 x y ≤ x := by decide +kernel
theorem less3_lt {x y : Nat} (h : x < 8) : less3 x y < 8 := by unfold less3; omega

set_option maxHeartbeats 400000 in
theorem within_any (x m : Int) (w : World) : Calls Try.prog 96 #[.int .i64 x, .int .i64 m] w fun e w' => e = .returned (.bool (inr x m)) ∧ w = w' := by
  by_cases h1 : 0 ≤ x <;> by_cases h2 : x ≤ m
  all_goals go_enter Try.func96, Try.ntmps96
  all_goals go_wp2
  all_goals go_ret
  all_goals exact ⟨by simp [inr, h1, h2], rfl⟩

theorem rgood_any (x : Int) (w : World) : Calls Try.prog 92 #[.int .i64 x] w fun e w' => e = .returned (.bool (inr x 7)) ∧ w = w' := by
  go_enter Try.func92, Try.ntmps92
  go_wp2_with (go_at_call 96; (with_reducible refine (within_any _ _ _).mono ?_); rintro e w' ⟨rfl, rfl⟩)
  go_ret
  exact ⟨rfl, rfl⟩

theorem badge_any (x : Int) (w : World) : Calls Try.prog 93 #[.int .i64 x] w fun e w' => e = .returned (.bool (inr x 65535)) ∧ w = w' := by
  go_enter Try.func93, Try.ntmps93
  go_wp2_with (go_at_call 96; (with_reducible refine (within_any _ _ _).mono ?_); rintro e w' ⟨rfl, rfl⟩)
  go_ret
  exact ⟨rfl, rfl⟩

theorem counted_any (x : Int) (w : World) : Calls Try.prog 97 #[.int .i64 x] w fun e w' => e = .returned (.int .i64 ((held x : Nat) : Int)) ∧ w = w' := by
  rcases h : inr x 7 with _ | _
  · have hz := held_no h
    have H := Lib.hid h
    clear h
    go_enter Try.func97, Try.ntmps97
    go_wp2_with (go_at_call 92; (with_reducible refine (rgood_any _ _).mono ?_); rintro e w' ⟨rfl, rfl⟩; rw [H.out])
    go_ret
    rw [hz]
    exact ⟨rfl, rfl⟩
  · have hz := Lib.hid (held_yes h)
    have H := Lib.hid h
    clear h
    go_enter Try.func97, Try.ntmps97
    go_wp2_with (go_at_call 92; (with_reducible refine (rgood_any _ _).mono ?_); rintro e w' ⟨rfl, rfl⟩; rw [H.out])
    go_ret
    rw [hz.out]
    exact ⟨rfl, rfl⟩

theorem less_any (a b : Int) (w : World) : Calls Try.prog 95 #[.int .i64 a, .int .i64 b] w fun e w' => e = .returned (.int .i64 ((less3 (held a) (held b) : Nat) : Int)) ∧ w = w' := by
  have HE := Lib.hid (less_table _ (held_lt a) _ (held_lt b))
  go_enter Try.func95, Try.ntmps95
  go_wp2_with (go_at_call 97; (with_reducible refine (counted_any _ _).mono ?_); rintro e w' ⟨rfl, rfl⟩)
  go_ret
  rw [HE.out]
  exact ⟨rfl, rfl⟩

theorem isin_any (a b : Int) (w : World) : Calls Try.prog 89 #[.int .i64 a, .int .i64 b] w fun e w' => e = .returned (.bool (less3 (held a) (held b) == 0)) ∧ w = w' := by
  go_enter Try.func89, Try.ntmps89
  go_wp2_with (go_at_call 95; (with_reducible refine (less_any _ _ _).mono ?_); rintro e w' ⟨rfl, rfl⟩)
  go_ret
  refine ⟨?_, rfl⟩
  congr 2
  generalize less3 (held a) (held b) = z
  cases z <;> rfl
end Go.Proofs.Ythooeahpfegjbaa
