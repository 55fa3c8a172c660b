/-
  The walk of the law RightLattice: it answers true. No condition.
-/
import Derived.Test.YtbhjjpmldhlobaaQh
namespace Go.Proofs.Ytbhjjpmldhlobaa
open Go.RowKit

theorem psd_ltrs {x : Nat} (h : x < 8) : psd (ltrs x) = some x :=
  psd_yes h (by rw [ltrs_eq x h x h]; exact beq_self_eq_true x) fun k hk => by rw [ltrs_eq k (by omega) x h]; exact beq_eq_false_iff_ne.2 (by omega)
theorem parse_at {s : ByteArray} {x : Nat} (h : psd s = some x) (w : World) : Calls Try.prog 8 #[.string s] w fun e w' => e = .returned (.tuple #[.int .i64 (x : Int), .bool true]) ∧ Below w.heap.size w w' := by
  have := parse_any s w
  rwa [h] at this
theorem in_first : ∀ x < 8, ∀ y < 8, (less3 (land3 x y) x == 0) = true := by decide +kernel
theorem in_second : ∀ x < 8, ∀ y < 8, (less3 (land3 x y) y == 0) = true := by decide +kernel
theorem land_comm : ∀ x < 8, ∀ y < 8, land3 y x = land3 x y := by decide +kernel
theorem in_goes : ∀ x < 8, ∀ y < 8, ∀ z < 8, (less3 x y == 0) = true → (less3 y z == 0) = true → (less3 x z == 0) = true := by decide +kernel
theorem in_land : ∀ x < 8, ∀ y < 8, (land3 x y == x) = (less3 x y == 0) := by decide +kernel
theorem in_both : ∀ x < 8, ∀ y < 8, (x == y) = ((less3 x y == 0) && (less3 y x == 0)) := by decide +kernel
theorem cast_beq (x y : Nat) : ((x : Int) == (y : Int)) = (x == y) := by
  by_cases h : x = y
  · subst h
    simp only [beq_self_eq_true]
  · have h2 : (x : Int) ≠ (y : Int) := by omega
    rw [beq_eq_false_iff_ne.2 h, beq_eq_false_iff_ne.2 h2]

set_option maxHeartbeats 4000000 in
theorem lattice_walk (a b c : Int) (w : World) : Calls Try.prog 5 #[.int .i64 a, .int .i64 b, .int .i64 c] w fun e w' => e = .returned (.bool true) ∧ Below w.heap.size w w' := by
  by_cases hall : inr a 7 = true ∧ inr b 7 = true ∧ inr c 7 = true
  · obtain ⟨ha, hb, hc⟩ := hall
    obtain ⟨x, hx, rfl⟩ := inr_held ha
    obtain ⟨y, hy, rfl⟩ := inr_held hb
    obtain ⟨z, hz, rfl⟩ := inr_held hc
    have HA := Lib.hid ha
    have HBB := Lib.hid hb
    have HC := Lib.hid hc
    have HX := Lib.hid hx
    have HY := Lib.hid hy
    have HZ := Lib.hid hz
    clear ha hb hc
    have f1 := in_first x hx y hy
    have f2 := in_second x hx y hy
    have f3 := land_comm x hx y hy
    have f4 := in_goes x hx y hy z hz
    have f5 := in_land x hx y hy
    have f6 := in_both x hx y hy
    have hle := land3_le x hx y hy
    have hm8 := land3_lt x hx y hy
    have hmx := cast_beq (land3 x y) x
    have hxy := cast_beq x y
    obtain ⟨l, hl⟩ : ∃ l, less3 x y = l := ⟨_, rfl⟩
    have hl8 : l < 8 := hl ▸ less3_lt hx
    have hs : ((land3 x y : Nat) : Int) + (l : Int) = (x : Int) := by unfold less3 at hl; omega
    obtain ⟨m, hm⟩ : ∃ m, land3 x y = m := ⟨_, rfl⟩
    rw [hm] at f1 f2 f3 f5 hle hm8 hmx hs
    have HL := Lib.hid hl
    have HM := Lib.hid hm
    have F1 := Lib.hid f1
    have F2 := Lib.hid f2
    have F3 := Lib.hid f3
    have HM8 := Lib.hid hm8
    rw [f5] at hmx
    rw [f6] at hxy
    clear hl hm f1 f2 f3 f5 f6 hle
    obtain ⟨v, hv⟩ : ∃ v, (less3 y x == 0) = v := ⟨_, rfl⟩
    rw [hv] at hxy
    have HV := Lib.hid hv
    have HB := Lib.hid (Below.refl w.heap.size w)
    clear hx hy hz hv
    rcases hp : (less3 x y == 0) with _ | _
    · as_aux_lemma =>
        rw [hp] at hmx hxy
        rw [Bool.false_and] at hxy
        have HP := Lib.hid hp
        clear hp f4
        go_enter Try.func5, Try.ntmps5
        go_wp2_with (first
          | (go_at_call 7; (with_reducible refine (awake_any _).mono ?_); rintro e w' ⟨rfl, hb⟩; replace HB := Lib.hid (below_on HB.out hb); clear hb)
          | (go_at_call 10; (with_reducible refine (good_to HA.out _).mono ?_); rintro e w' ⟨rfl, rfl⟩)
          | (go_at_call 10; (with_reducible refine (good_to HBB.out _).mono ?_); rintro e w' ⟨rfl, rfl⟩)
          | (go_at_call 10; (with_reducible refine (good_to HC.out _).mono ?_); rintro e w' ⟨rfl, rfl⟩)
          | (go_at_call 11; (with_reducible refine (text_nat x HX.out _).mono ?_); rintro e w' ⟨rfl, hb⟩; replace HB := Lib.hid (below_on HB.out hb); clear hb)
          | (go_at_call 8; (with_reducible refine (parse_at (psd_ltrs HX.out) _).mono ?_); rintro e w' ⟨rfl, hb⟩; replace HB := Lib.hid (below_on HB.out hb); clear hb)
          | (go_at_call 14; (with_reducible refine (less_at HX.out HY.out HL.out _).mono ?_); rintro e w' ⟨rfl, rfl⟩)
          | (go_at_call 13; (with_reducible refine (both_at HX.out HY.out HM.out _).mono ?_); rintro e w' ⟨rfl, rfl⟩)
          | (go_at_call 13; (with_reducible refine (both_at HY.out HX.out F3.out _).mono ?_); rintro e w' ⟨rfl, rfl⟩)
          | (go_at_call 12; (with_reducible refine (isin_at HM8.out HX.out F1.out _).mono ?_); rintro e w' ⟨rfl, rfl⟩)
          | (go_at_call 12; (with_reducible refine (isin_at HM8.out HY.out F2.out _).mono ?_); rintro e w' ⟨rfl, rfl⟩)
          | (go_at_call 12; (with_reducible refine (isin_at HX.out HY.out HP.out _).mono ?_); rintro e w' ⟨rfl, rfl⟩))
        go_ret
        exact ⟨rfl, HB.out⟩
    · rw [hp] at hmx hxy
      rw [Bool.true_and] at hxy
      rcases hq : (less3 y z == 0) with _ | _
      · as_aux_lemma =>
          have HP := Lib.hid hp
          have HQ := Lib.hid hq
          clear hp hq f4
          go_enter Try.func5, Try.ntmps5
          go_wp2_with (first
            | (go_at_call 7; (with_reducible refine (awake_any _).mono ?_); rintro e w' ⟨rfl, hb⟩; replace HB := Lib.hid (below_on HB.out hb); clear hb)
            | (go_at_call 10; (with_reducible refine (good_to HA.out _).mono ?_); rintro e w' ⟨rfl, rfl⟩)
            | (go_at_call 10; (with_reducible refine (good_to HBB.out _).mono ?_); rintro e w' ⟨rfl, rfl⟩)
            | (go_at_call 10; (with_reducible refine (good_to HC.out _).mono ?_); rintro e w' ⟨rfl, rfl⟩)
            | (go_at_call 11; (with_reducible refine (text_nat x HX.out _).mono ?_); rintro e w' ⟨rfl, hb⟩; replace HB := Lib.hid (below_on HB.out hb); clear hb)
            | (go_at_call 8; (with_reducible refine (parse_at (psd_ltrs HX.out) _).mono ?_); rintro e w' ⟨rfl, hb⟩; replace HB := Lib.hid (below_on HB.out hb); clear hb)
            | (go_at_call 14; (with_reducible refine (less_at HX.out HY.out HL.out _).mono ?_); rintro e w' ⟨rfl, rfl⟩)
            | (go_at_call 13; (with_reducible refine (both_at HX.out HY.out HM.out _).mono ?_); rintro e w' ⟨rfl, rfl⟩)
            | (go_at_call 13; (with_reducible refine (both_at HY.out HX.out F3.out _).mono ?_); rintro e w' ⟨rfl, rfl⟩)
            | (go_at_call 12; (with_reducible refine (isin_at HM8.out HX.out F1.out _).mono ?_); rintro e w' ⟨rfl, rfl⟩)
            | (go_at_call 12; (with_reducible refine (isin_at HM8.out HY.out F2.out _).mono ?_); rintro e w' ⟨rfl, rfl⟩)
            | (go_at_call 12; (with_reducible refine (isin_at HX.out HY.out HP.out _).mono ?_); rintro e w' ⟨rfl, rfl⟩)
            | (go_at_call 12; (with_reducible refine (isin_at HY.out HZ.out HQ.out _).mono ?_); rintro e w' ⟨rfl, rfl⟩)
            | (go_at_call 12; (with_reducible refine (isin_at HY.out HX.out HV.out _).mono ?_); rintro e w' ⟨rfl, rfl⟩))
          go_ret
          exact ⟨rfl, HB.out⟩
      · as_aux_lemma =>
          have HR := Lib.hid (f4 hp hq)
          have HP := Lib.hid hp
          have HQ := Lib.hid hq
          clear hp hq f4
          go_enter Try.func5, Try.ntmps5
          go_wp2_with (first
            | (go_at_call 7; (with_reducible refine (awake_any _).mono ?_); rintro e w' ⟨rfl, hb⟩; replace HB := Lib.hid (below_on HB.out hb); clear hb)
            | (go_at_call 10; (with_reducible refine (good_to HA.out _).mono ?_); rintro e w' ⟨rfl, rfl⟩)
            | (go_at_call 10; (with_reducible refine (good_to HBB.out _).mono ?_); rintro e w' ⟨rfl, rfl⟩)
            | (go_at_call 10; (with_reducible refine (good_to HC.out _).mono ?_); rintro e w' ⟨rfl, rfl⟩)
            | (go_at_call 11; (with_reducible refine (text_nat x HX.out _).mono ?_); rintro e w' ⟨rfl, hb⟩; replace HB := Lib.hid (below_on HB.out hb); clear hb)
            | (go_at_call 8; (with_reducible refine (parse_at (psd_ltrs HX.out) _).mono ?_); rintro e w' ⟨rfl, hb⟩; replace HB := Lib.hid (below_on HB.out hb); clear hb)
            | (go_at_call 14; (with_reducible refine (less_at HX.out HY.out HL.out _).mono ?_); rintro e w' ⟨rfl, rfl⟩)
            | (go_at_call 13; (with_reducible refine (both_at HX.out HY.out HM.out _).mono ?_); rintro e w' ⟨rfl, rfl⟩)
            | (go_at_call 13; (with_reducible refine (both_at HY.out HX.out F3.out _).mono ?_); rintro e w' ⟨rfl, rfl⟩)
            | (go_at_call 12; (with_reducible refine (isin_at HM8.out HX.out F1.out _).mono ?_); rintro e w' ⟨rfl, rfl⟩)
            | (go_at_call 12; (with_reducible refine (isin_at HM8.out HY.out F2.out _).mono ?_); rintro e w' ⟨rfl, rfl⟩)
            | (go_at_call 12; (with_reducible refine (isin_at HX.out HY.out HP.out _).mono ?_); rintro e w' ⟨rfl, rfl⟩)
            | (go_at_call 12; (with_reducible refine (isin_at HY.out HZ.out HQ.out _).mono ?_); rintro e w' ⟨rfl, rfl⟩)
            | (go_at_call 12; (with_reducible refine (isin_at HX.out HZ.out HR.out _).mono ?_); rintro e w' ⟨rfl, rfl⟩)
            | (go_at_call 12; (with_reducible refine (isin_at HY.out HX.out HV.out _).mono ?_); rintro e w' ⟨rfl, rfl⟩))
          go_ret
          exact ⟨rfl, HB.out⟩
  · rcases ha : inr a 7 with _ | _
    · as_aux_lemma =>
        have HA := Lib.hid ha
        clear ha hall
        have HB := Lib.hid (Below.refl w.heap.size w)
        go_enter Try.func5, Try.ntmps5
        go_wp2_with (first
          | (go_at_call 7; (with_reducible refine (awake_any _).mono ?_); rintro e w' ⟨rfl, hb⟩; replace HB := Lib.hid (below_on HB.out hb); clear hb)
          | (go_at_call 10; (with_reducible refine (good_to HA.out _).mono ?_); rintro e w' ⟨rfl, rfl⟩))
        go_ret
        exact ⟨rfl, HB.out⟩
    · rcases hb : inr b 7 with _ | _
      · as_aux_lemma =>
          have HA := Lib.hid ha
          have HBB := Lib.hid hb
          clear ha hb hall
          have HB := Lib.hid (Below.refl w.heap.size w)
          go_enter Try.func5, Try.ntmps5
          go_wp2_with (first
            | (go_at_call 7; (with_reducible refine (awake_any _).mono ?_); rintro e w' ⟨rfl, hb⟩; replace HB := Lib.hid (below_on HB.out hb); clear hb)
            | (go_at_call 10; (with_reducible refine (good_to HA.out _).mono ?_); rintro e w' ⟨rfl, rfl⟩)
            | (go_at_call 10; (with_reducible refine (good_to HBB.out _).mono ?_); rintro e w' ⟨rfl, rfl⟩))
          go_ret
          exact ⟨rfl, HB.out⟩
      · have hc : inr c 7 = false := by
          rcases hc : inr c 7 with _ | _
          · rfl
          · exact absurd (And.intro ha (And.intro hb hc)) hall
        as_aux_lemma =>
          have HA := Lib.hid ha
          have HBB := Lib.hid hb
          have HC := Lib.hid hc
          clear ha hb hc hall
          have HB := Lib.hid (Below.refl w.heap.size w)
          go_enter Try.func5, Try.ntmps5
          go_wp2_with (first
            | (go_at_call 7; (with_reducible refine (awake_any _).mono ?_); rintro e w' ⟨rfl, hb⟩; replace HB := Lib.hid (below_on HB.out hb); clear hb)
            | (go_at_call 10; (with_reducible refine (good_to HA.out _).mono ?_); rintro e w' ⟨rfl, rfl⟩)
            | (go_at_call 10; (with_reducible refine (good_to HBB.out _).mono ?_); rintro e w' ⟨rfl, rfl⟩)
            | (go_at_call 10; (with_reducible refine (good_to HC.out _).mono ?_); rintro e w' ⟨rfl, rfl⟩))
          go_ret
          exact ⟨rfl, HB.out⟩
end Go.Proofs.Ytbhjjpmldhlobaa
