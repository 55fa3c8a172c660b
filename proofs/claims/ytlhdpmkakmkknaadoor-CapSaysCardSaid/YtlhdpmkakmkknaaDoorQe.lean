/-
  The walks of the reference's held, Both, Less and Within. No condition.
-/
import Derived.Test.YtlhdpmkakmkknaaDoorQb
namespace Go.Proofs.YtlhdpmkakmkknaaDoor
open Go.RowKit

set_option maxHeartbeats 400000 in
theorem rheld_any (x : Int) (w : World) : Calls Tryd.prog 48 #[.int .i64 x] w fun e w' => e = .returned (.int .i64 ((held x : Nat) : Int)) ∧ w = w' := by
  rcases h : inr x 7 with _ | _
  · have hz := held_no h
    unfold inr at h
    simp only [Bool.and_eq_false_iff, decide_eq_false_iff_not] at h
    by_cases h1 : x < 0 <;> by_cases h2 : 7 < x
    all_goals try omega
    all_goals have HZ := Lib.hid hz
    all_goals clear hz h
    all_goals go_enter Tryd.func48, Tryd.ntmps48
    all_goals go_wp2
    all_goals go_ret
    all_goals rw [HZ.out]
    all_goals exact ⟨rfl, rfl⟩
  · have HZ := Lib.hid (held_yes h)
    unfold inr at h
    simp only [Bool.and_eq_true, decide_eq_true_eq] at h
    have h1 : ¬ x < 0 := by omega
    have h2 : ¬ 7 < x := by omega
    clear h
    go_enter Tryd.func48, Tryd.ntmps48
    go_wp2
    go_ret
    rw [HZ.out]
    exact ⟨rfl, rfl⟩

/-- both's of the first i bits -/
def pland (x y : Nat) : Nat → Nat
  | 0 => 0
  | i + 1 => pland x y i + if x / 2 ^ i % 2 = 1 ∧ y / 2 ^ i % 2 = 1 then 2 ^ i else 0
theorem pland_all : ∀ x < 8, ∀ y < 8, pland x y 3 = land3 x y := by decide +kernel
theorem pland_lt : ∀ x < 8, ∀ y < 8, ∀ i < 4, pland x y i < 8 := by decide +kernel
theorem pland_one : ∀ x < 8, ∀ y < 8, pland x y 1 = pland x y 0 + if x % 2 = 1 ∧ y % 2 = 1 then 1 else 0 := by decide +kernel
theorem pland_two : ∀ x < 8, ∀ y < 8, pland x y 2 = pland x y 1 + if x / 2 % 2 = 1 ∧ y / 2 % 2 = 1 then 2 else 0 := by decide +kernel
theorem pland_three : ∀ x < 8, ∀ y < 8, pland x y 3 = pland x y 2 + if x / 4 % 2 = 1 ∧ y / 4 % 2 = 1 then 4 else 0 := by decide +kernel
theorem odd1 : ∀ x < 8, ((wrap64 ((x : Nat) : Int)).tmod 2 == 1) = decide (x % 2 = 1) := by decide +kernel
theorem odd2 : ∀ x < 8, ((wrap64 (((x : Nat) : Int) / 2)).tmod 2 == 1) = decide (x / 2 % 2 = 1) := by decide +kernel
theorem odd4 : ∀ x < 8, ((wrap64 (((x : Nat) : Int) / 4)).tmod 2 == 1) = decide (x / 4 % 2 = 1) := by decide +kernel

def BothRel (W : World) (x y : Nat) (n : Nat) (p q : Value) (wr : World) : Prop := ∃ (i z : Nat) (k : Int), n + i = 3 ∧ (i = 0 ∧ k = 1 ∨ i = 1 ∧ k = 2 ∨ i = 2 ∧ k = 4 ∨ i = 3 ∧ k = 8) ∧ z = pland x y i ∧ z < 8 ∧ p = .int .i64 (z : Int) ∧ q = .int .i64 k ∧ W = wr

set_option maxHeartbeats 1000000 in
theorem rboth_any (a b : Int) (w : World) : Calls Tryd.prog 37 #[.int .i64 a, .int .i64 b] w fun e w' => e = .returned (.int .i64 ((land3 (held a) (held b) : Nat) : Int)) ∧ w = w' := by
  generalize hx : held a = x
  generalize hy : held b = y
  have HX := Lib.hid hx
  have HY := Lib.hid hy
  have H8 := Lib.hid (hx ▸ held_lt a)
  have K8 := Lib.hid (hy ▸ held_lt b)
  clear hx hy
  go_enter Tryd.func37, Tryd.ntmps37
  go_wp2_with (go_at_call 48; (with_reducible refine (rheld_any _ _).mono ?_); rintro e w' ⟨rfl, rfl⟩; first | rw [HX.out] | rw [HY.out])
  go_loopg [5, 6] 3 (fun n p q wr => BothRel w x y n p q wr)
  case atStart => exact ⟨0, 0, 1, by omega, by omega, rfl, by omega, rfl, rfl, rfl⟩
  case round =>
    obtain ⟨i, z, k, hk, hs, hz, hz8, rfl, rfl, rfl⟩ := hrel
    have HK := Lib.hid hk
    have HZ := Lib.hid hz
    clear hk hz
    rcases hs with ⟨rfl, rfl⟩ | ⟨rfl, rfl⟩ | ⟨rfl, rfl⟩ | ⟨rfl, rfl⟩
    · rcases hp : ((wrap64 (x : Int)).tmod 2 == 1) with _ | _ <;> rcases hq : ((wrap64 (y : Int)).tmod 2 == 1) with _ | _
      all_goals as_aux_lemma =>
        have e1 := Lib.hid (odd1 x H8.out)
        have e2 := Lib.hid (odd1 y K8.out)
        go_wp2_with fail
        go_roundg (3 - (0 + 1))
        case measure => have := HK.out; omega
        case rel =>
          have f := pland_one x H8.out y K8.out
          have a1 := e1.out.symm.trans hp
          have a2 := e2.out.symm.trans hq
          simp only [decide_eq_true_eq, decide_eq_false_iff_not] at a1 a2
          rw [← HZ.out] at f
          simp [a1, a2] at f
          refine ⟨1, pland x y 1, 2, by have := HK.out; omega, by omega, rfl, pland_lt x H8.out y K8.out _ (by decide), ?_, rfl, rfl⟩
          rw [f]
          all_goals rfl
    · rcases hp : ((wrap64 ((x : Int) / 2)).tmod 2 == 1) with _ | _ <;> rcases hq : ((wrap64 ((y : Int) / 2)).tmod 2 == 1) with _ | _
      all_goals as_aux_lemma =>
        have e1 := Lib.hid (odd2 x H8.out)
        have e2 := Lib.hid (odd2 y K8.out)
        go_wp2_with fail
        go_roundg (3 - (1 + 1))
        case measure => have := HK.out; omega
        case rel =>
          have f := pland_two x H8.out y K8.out
          have a1 := e1.out.symm.trans hp
          have a2 := e2.out.symm.trans hq
          simp only [decide_eq_true_eq, decide_eq_false_iff_not] at a1 a2
          rw [← HZ.out] at f
          simp [a1, a2] at f
          refine ⟨2, pland x y 2, 4, by have := HK.out; omega, by omega, rfl, pland_lt x H8.out y K8.out _ (by decide), ?_, rfl, rfl⟩
          rw [f]
          all_goals rfl
    · rcases hp : ((wrap64 ((x : Int) / 4)).tmod 2 == 1) with _ | _ <;> rcases hq : ((wrap64 ((y : Int) / 4)).tmod 2 == 1) with _ | _
      all_goals as_aux_lemma =>
        have e1 := Lib.hid (odd4 x H8.out)
        have e2 := Lib.hid (odd4 y K8.out)
        go_wp2_with fail
        go_roundg (3 - (2 + 1))
        case measure => have := HK.out; omega
        case rel =>
          have f := pland_three x H8.out y K8.out
          have a1 := e1.out.symm.trans hp
          have a2 := e2.out.symm.trans hq
          simp only [decide_eq_true_eq, decide_eq_false_iff_not] at a1 a2
          rw [← HZ.out] at f
          simp [a1, a2] at f
          refine ⟨3, pland x y 3, 8, by have := HK.out; omega, by omega, rfl, pland_lt x H8.out y K8.out _ (by decide), ?_, rfl, rfl⟩
          rw [f]
          all_goals rfl
    · go_wp2
      go_ret
      rw [HZ.out, pland_all x H8.out y K8.out]
      exact ⟨rfl, rfl⟩

theorem rless_any (a b : Int) (w : World) : Calls Tryd.prog 49 #[.int .i64 a, .int .i64 b] w fun e w' => e = .returned (.int .i64 ((less3 (held a) (held b) : Nat) : Int)) ∧ w = w' := by
  have hl := land3_le _ (held_lt a) _ (held_lt b)
  have hx := held_lt a
  go_enter Tryd.func49, Tryd.ntmps49
  go_wp2_with (first
    | (go_at_call 48; (with_reducible refine (rheld_any _ _).mono ?_); rintro e w' ⟨rfl, rfl⟩)
    | (go_at_call 37; (with_reducible refine (rboth_any _ _ _).mono ?_); rintro e w' ⟨rfl, rfl⟩))
  go_ret
  refine ⟨?_, rfl⟩
  show Ending.returned (Value.int .i64 (((held a : Nat) : Int) - ((land3 (held a) (held b) : Nat) : Int))) = _
  unfold less3
  rw [Int.ofNat_sub hl]

theorem risin_any (a b : Int) (w : World) : Calls Tryd.prog 38 #[.int .i64 a, .int .i64 b] w fun e w' => e = .returned (.bool (less3 (held a) (held b) == 0)) ∧ w = w' := by
  go_enter Tryd.func38, Tryd.ntmps38
  go_wp2_with (go_at_call 49; (with_reducible refine (rless_any _ _ _).mono ?_); rintro e w' ⟨rfl, rfl⟩)
  go_ret
  refine ⟨?_, rfl⟩
  congr 2
  generalize less3 (held a) (held b) = z
  cases z <;> rfl
end Go.Proofs.YtlhdpmkakmkknaaDoor
