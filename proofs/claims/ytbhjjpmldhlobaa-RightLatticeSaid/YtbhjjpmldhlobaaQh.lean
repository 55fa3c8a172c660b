/-
  The walk of the law RightTexts: it answers true. No condition.
-/
import Derived.Test.YtbhjjpmldhlobaaQg
namespace Go.Proofs.Ytbhjjpmldhlobaa
open Go.RowKit

theorem both_at {x y r : Nat} (hx : x < 8) (hy : y < 8) (h : land3 x y = r) (w : World) : Calls Try.prog 13 #[.int .i64 (x : Int), .int .i64 (y : Int)] w fun e w' => e = .returned (.int .i64 (r : Int)) ∧ w = w' := by
  have := both_any (x : Int) (y : Int) w
  rwa [held_self hx, held_self hy, h] at this
theorem less_at {x y r : Nat} (hx : x < 8) (hy : y < 8) (h : less3 x y = r) (w : World) : Calls Try.prog 14 #[.int .i64 (x : Int), .int .i64 (y : Int)] w fun e w' => e = .returned (.int .i64 (r : Int)) ∧ w = w' := by
  have := less_any (x : Int) (y : Int) w
  rwa [held_self hx, held_self hy, h] at this
theorem isin_at {x y : Nat} {b : Bool} (hx : x < 8) (hy : y < 8) (h : (less3 x y == 0) = b) (w : World) : Calls Try.prog 12 #[.int .i64 (x : Int), .int .i64 (y : Int)] w fun e w' => e = .returned (.bool b) ∧ w = w' := by
  have := isin_any (x : Int) (y : Int) w
  rwa [held_self hx, held_self hy, h] at this
theorem text_no {a : Int} (h : inr a 7 = false) (w : World) : Calls Try.prog 11 #[.int .i64 a] w fun e w' => e = .returned (.string ⟨#[45]⟩) ∧ Below w.heap.size w w' := text_none a w (held_no h)
theorem apart_table : ∀ x < 8, ∀ y < 8, land3 (less3 x y) y = 0 := by decide +kernel

set_option maxHeartbeats 4000000 in
theorem texts_walk (a b : Int) (w : World) : Calls Try.prog 6 #[.int .i64 a, .int .i64 b] w fun e w' => e = .returned (.bool true) ∧ Below w.heap.size w w' := by
  rcases ha : inr a 7 with _ | _
  · have HA := Lib.hid ha
    clear ha
    have HB := Lib.hid (Below.refl w.heap.size w)
    go_enter Try.func6, Try.ntmps6
    go_wp2_with (first
      | (go_at_call 7; (with_reducible refine (awake_any _).mono ?_); rintro e w' ⟨rfl, hb⟩; replace HB := Lib.hid (below_on HB.out hb); clear hb)
      | (go_at_call 10; (with_reducible refine (good_to HA.out _).mono ?_); rintro e w' ⟨rfl, rfl⟩)
      | (go_at_call 11; (with_reducible refine (text_no HA.out _).mono ?_); rintro e w' ⟨rfl, hb⟩; replace HB := Lib.hid (below_on HB.out hb); clear hb))
    go_ret
    exact ⟨rfl, HB.out⟩
  · obtain ⟨x, hx, rfl⟩ := inr_held ha
    have HA := Lib.hid ha
    have HX := Lib.hid hx
    clear ha
    rcases hb : inr b 7 with _ | _
    · have HBB := Lib.hid hb
      clear hb
      have HB := Lib.hid (Below.refl w.heap.size w)
      go_enter Try.func6, Try.ntmps6
      go_wp2_with fail
      refine (awake_any _).mono ?_
      rintro e w1 ⟨rfl, hb⟩
      replace HB := Lib.hid (below_on HB.out hb)
      clear hb
      go_wp2_with (first
        | (go_at_call 10; (with_reducible refine (good_to HA.out _).mono ?_); rintro e w' ⟨rfl, rfl⟩)
        | (go_at_call 10; (with_reducible refine (good_to HBB.out _).mono ?_); rintro e w' ⟨rfl, rfl⟩))
      go_ret
      exact ⟨rfl, HB.out⟩
    · obtain ⟨y, hy, rfl⟩ := inr_held hb
      have HBB := Lib.hid hb
      have HY := Lib.hid hy
      clear hb
      obtain ⟨l, hl⟩ : ∃ l, less3 x y = l := ⟨_, rfl⟩
      obtain ⟨m, hm⟩ : ∃ m, land3 x y = m := ⟨_, rfl⟩
      have hl8 : l < 8 := hl ▸ less3_lt hx
      have hle := land3_le x hx y hy
      have hz := apart_table x hx y hy
      rw [hl] at hz
      have hs : (l : Int) + (m : Int) = (x : Int) := by unfold less3 at hl; omega
      have HL := Lib.hid hl
      have HM := Lib.hid hm
      have HZ := Lib.hid hz
      have HL8 := Lib.hid hl8
      have hm8 : m < 8 := hm ▸ land3_lt x hx y hy
      have htx := ltrs_eq x hx y hy
      have hxy : ((x : Int) == (y : Int)) = (x == y) := by
        by_cases h : x = y
        · subst h; simp only [beq_self_eq_true]
        · have h2 : (x : Int) ≠ (y : Int) := by omega
          rw [beq_eq_false_iff_ne.2 h, beq_eq_false_iff_ne.2 h2]
      clear hl hm hz hle
      rcases hp : (x == y) with _ | _
      all_goals as_aux_lemma =>
        rw [hp] at htx hxy
        clear hp
        have HB := Lib.hid (Below.refl w.heap.size w)
        go_enter Try.func6, Try.ntmps6
        go_wp2_with (first
          | (go_at_call 7; (with_reducible refine (awake_any _).mono ?_); rintro e w' ⟨rfl, hb⟩; replace HB := Lib.hid (below_on HB.out hb); clear hb)
          | (go_at_call 10; (with_reducible refine (good_to HA.out _).mono ?_); rintro e w' ⟨rfl, rfl⟩)
          | (go_at_call 10; (with_reducible refine (good_to HBB.out _).mono ?_); rintro e w' ⟨rfl, rfl⟩)
          | (go_at_call 11; (with_reducible refine (text_nat x HX.out _).mono ?_); rintro e w' ⟨rfl, hb⟩; replace HB := Lib.hid (below_on HB.out hb); clear hb)
          | (go_at_call 11; (with_reducible refine (text_nat y HY.out _).mono ?_); rintro e w' ⟨rfl, hb⟩; replace HB := Lib.hid (below_on HB.out hb); clear hb)
          | (go_at_call 14; (with_reducible refine (less_at HX.out HY.out HL.out _).mono ?_); rintro e w' ⟨rfl, rfl⟩)
          | (go_at_call 13; (with_reducible refine (both_at HX.out HY.out HM.out _).mono ?_); rintro e w' ⟨rfl, rfl⟩)
          | (go_at_call 13; (with_reducible refine (both_at HL8.out HY.out HZ.out _).mono ?_); rintro e w' ⟨rfl, rfl⟩))
        go_ret
        exact ⟨rfl, HB.out⟩
end Go.Proofs.Ytbhjjpmldhlobaa
