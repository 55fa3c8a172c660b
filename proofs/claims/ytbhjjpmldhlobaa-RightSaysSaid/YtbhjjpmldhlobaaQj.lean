/-
  The walk of the law RightSays: it answers true. No condition.
-/
import Derived.Test.YtbhjjpmldhlobaaQg
namespace Go.Proofs.Ytbhjjpmldhlobaa
open Go.RowKit

section
variable {a b : Int} {s t : ByteArray} {r l m : Nat} {v k : Bool}
theorem s_parse (h : (psd s).getD 0 = r) (g : (psd s).isSome = k) (w : World) : Calls Try.prog 8 #[.string s] w fun e w' => e = .returned (.tuple #[.int .i64 (r : Int), .bool k]) ∧ Below w.heap.size w w' := by
  have := parse_any s w
  rwa [h, g] at this
theorem s_rparse (h : (psd s).getD 0 = r) (g : (psd s).isSome = k) (w : World) : Calls Try.prog 16 #[.string s] w fun e w' => e = .returned (.tuple #[.int .i64 (r : Int), .bool k]) ∧ w = w' := by
  have := rparse_any s w
  rwa [h, g] at this
theorem s_isin (h : (less3 (held a) (held b) == 0) = v) (w : World) : Calls Try.prog 12 #[.int .i64 a, .int .i64 b] w fun e w' => e = .returned (.bool v) ∧ w = w' := h ▸ isin_any a b w
theorem s_risin (h : (less3 (held a) (held b) == 0) = v) (w : World) : Calls Try.prog 17 #[.int .i64 a, .int .i64 b] w fun e w' => e = .returned (.bool v) ∧ w = w' := h ▸ risin_any a b w
theorem s_both (h : land3 (held a) (held b) = m) (w : World) : Calls Try.prog 13 #[.int .i64 a, .int .i64 b] w fun e w' => e = .returned (.int .i64 (m : Int)) ∧ w = w' := h ▸ both_any a b w
theorem s_rboth (h : land3 (held a) (held b) = m) (w : World) : Calls Try.prog 18 #[.int .i64 a, .int .i64 b] w fun e w' => e = .returned (.int .i64 (m : Int)) ∧ w = w' := h ▸ rboth_any a b w
theorem s_less (h : less3 (held a) (held b) = l) (w : World) : Calls Try.prog 14 #[.int .i64 a, .int .i64 b] w fun e w' => e = .returned (.int .i64 (l : Int)) ∧ w = w' := h ▸ less_any a b w
theorem s_rless (h : less3 (held a) (held b) = l) (w : World) : Calls Try.prog 19 #[.int .i64 a, .int .i64 b] w fun e w' => e = .returned (.int .i64 (l : Int)) ∧ w = w' := h ▸ rless_any a b w
theorem s_text (h : ltrs (held a) = t) (w : World) : Calls Try.prog 11 #[.int .i64 a] w fun e w' => e = .returned (.string t) ∧ Below w.heap.size w w' := h ▸ text_any a w
theorem s_rtext (h : ltrs (held a) = t) (w : World) : Calls Try.prog 20 #[.int .i64 a] w fun e w' => e = .returned (.string t) ∧ w = w' := h ▸ rtext_any a w
theorem s_badge (h : inr a 65535 = k) (w : World) : Calls Try.prog 15 #[.int .i64 a] w fun e w' => e = .returned (.bool k) ∧ w = w' := h ▸ badge_any a w
end

set_option maxHeartbeats 8000000 in
theorem says_walk (a b : Int) (s : ByteArray) (w : World) : Calls Try.prog 4 #[.int .i64 a, .int .i64 b, .string s] w fun e w' => e = .returned (.bool true) ∧ Below w.heap.size w w' := by
  have HB := Lib.hid (Below.refl w.heap.size w)
  obtain ⟨r, hr⟩ : ∃ r, (psd s).getD 0 = r := ⟨_, rfl⟩
  obtain ⟨ok, hok⟩ : ∃ b, (psd s).isSome = b := ⟨_, rfl⟩
  obtain ⟨l, hl⟩ : ∃ l, less3 (held a) (held b) = l := ⟨_, rfl⟩
  obtain ⟨m, hm⟩ : ∃ m, land3 (held a) (held b) = m := ⟨_, rfl⟩
  obtain ⟨t, ht⟩ : ∃ t, ltrs (held a) = t := ⟨_, rfl⟩
  obtain ⟨v, hv⟩ : ∃ v, (less3 (held a) (held b) == 0) = v := ⟨_, rfl⟩
  have HR := Lib.hid hr
  have HO := Lib.hid hok
  have HL := Lib.hid hl
  have HM := Lib.hid hm
  have HT := Lib.hid ht
  have HV := Lib.hid hv
  clear hr hok hl hm ht hv
  rcases Int.lt_or_le a 0 with h0 | h0
  · have hg : inr a 7 = false := by unfold inr; simp; omega
    have hk : inr a 65535 = false := by unfold inr; simp; omega
    have h1 : ¬ 0 ≤ a := by omega
    have HG := Lib.hid hg
    have HK := Lib.hid hk
    clear h0 hg hk
    as_aux_lemma =>
      go_enter Try.func4, Try.ntmps4
      go_wp2_with (first
        | (go_at_call 7; (with_reducible refine (awake_any _).mono ?_); rintro e w' ⟨rfl, hb⟩; replace HB := Lib.hid (below_on HB.out hb); clear hb)
        | (go_at_call 8; (with_reducible refine (s_parse HR.out HO.out _).mono ?_); rintro e w' ⟨rfl, hb⟩; replace HB := Lib.hid (below_on HB.out hb); clear hb)
        | (go_at_call 16; (with_reducible refine (s_rparse HR.out HO.out _).mono ?_); rintro e w' ⟨rfl, rfl⟩)
        | (go_at_call 10; (with_reducible refine (good_to HG.out _).mono ?_); rintro e w' ⟨rfl, rfl⟩)
        | (go_at_call 12; (with_reducible refine (s_isin HV.out _).mono ?_); rintro e w' ⟨rfl, rfl⟩)
        | (go_at_call 17; (with_reducible refine (s_risin HV.out _).mono ?_); rintro e w' ⟨rfl, rfl⟩)
        | (go_at_call 13; (with_reducible refine (s_both HM.out _).mono ?_); rintro e w' ⟨rfl, rfl⟩)
        | (go_at_call 18; (with_reducible refine (s_rboth HM.out _).mono ?_); rintro e w' ⟨rfl, rfl⟩)
        | (go_at_call 14; (with_reducible refine (s_less HL.out _).mono ?_); rintro e w' ⟨rfl, rfl⟩)
        | (go_at_call 19; (with_reducible refine (s_rless HL.out _).mono ?_); rintro e w' ⟨rfl, rfl⟩)
        | (go_at_call 11; (with_reducible refine (s_text HT.out _).mono ?_); rintro e w' ⟨rfl, hb⟩; replace HB := Lib.hid (below_on HB.out hb); clear hb)
        | (go_at_call 20; (with_reducible refine (s_rtext HT.out _).mono ?_); rintro e w' ⟨rfl, rfl⟩)
        | (go_at_call 15; (with_reducible refine (s_badge HK.out _).mono ?_); rintro e w' ⟨rfl, rfl⟩))
      go_ret
      exact ⟨rfl, HB.out⟩
  · rcases Int.lt_or_le 7 a with h7 | h7
    · have hg : inr a 7 = false := by unfold inr; simp; omega
      have h1 : ¬ a ≤ 7 := by omega
      have d1 : decide (a ≤ 7) = false := decide_eq_false h1
      have HG := Lib.hid hg
      clear hg h7
      rcases Int.lt_or_le 65535 a with h6 | h6
      · have hk : inr a 65535 = false := by unfold inr; simp; omega
        have h2 : ¬ a ≤ 65535 := by omega
        have d2 : decide (a ≤ 65535) = false := decide_eq_false h2
        have HK := Lib.hid hk
        clear hk h6
        as_aux_lemma =>
          go_enter Try.func4, Try.ntmps4
          go_wp2_with (first
            | (go_at_call 7; (with_reducible refine (awake_any _).mono ?_); rintro e w' ⟨rfl, hb⟩; replace HB := Lib.hid (below_on HB.out hb); clear hb)
            | (go_at_call 8; (with_reducible refine (s_parse HR.out HO.out _).mono ?_); rintro e w' ⟨rfl, hb⟩; replace HB := Lib.hid (below_on HB.out hb); clear hb)
            | (go_at_call 16; (with_reducible refine (s_rparse HR.out HO.out _).mono ?_); rintro e w' ⟨rfl, rfl⟩)
            | (go_at_call 10; (with_reducible refine (good_to HG.out _).mono ?_); rintro e w' ⟨rfl, rfl⟩)
            | (go_at_call 12; (with_reducible refine (s_isin HV.out _).mono ?_); rintro e w' ⟨rfl, rfl⟩)
            | (go_at_call 17; (with_reducible refine (s_risin HV.out _).mono ?_); rintro e w' ⟨rfl, rfl⟩)
            | (go_at_call 13; (with_reducible refine (s_both HM.out _).mono ?_); rintro e w' ⟨rfl, rfl⟩)
            | (go_at_call 18; (with_reducible refine (s_rboth HM.out _).mono ?_); rintro e w' ⟨rfl, rfl⟩)
            | (go_at_call 14; (with_reducible refine (s_less HL.out _).mono ?_); rintro e w' ⟨rfl, rfl⟩)
            | (go_at_call 19; (with_reducible refine (s_rless HL.out _).mono ?_); rintro e w' ⟨rfl, rfl⟩)
            | (go_at_call 11; (with_reducible refine (s_text HT.out _).mono ?_); rintro e w' ⟨rfl, hb⟩; replace HB := Lib.hid (below_on HB.out hb); clear hb)
            | (go_at_call 20; (with_reducible refine (s_rtext HT.out _).mono ?_); rintro e w' ⟨rfl, rfl⟩)
            | (go_at_call 15; (with_reducible refine (s_badge HK.out _).mono ?_); rintro e w' ⟨rfl, rfl⟩))
          go_ret
          exact ⟨rfl, HB.out⟩
      · have hk : inr a 65535 = true := by unfold inr; simp; omega
        have HK := Lib.hid hk
        clear hk
        as_aux_lemma =>
          go_enter Try.func4, Try.ntmps4
          go_wp2_with (first
            | (go_at_call 7; (with_reducible refine (awake_any _).mono ?_); rintro e w' ⟨rfl, hb⟩; replace HB := Lib.hid (below_on HB.out hb); clear hb)
            | (go_at_call 8; (with_reducible refine (s_parse HR.out HO.out _).mono ?_); rintro e w' ⟨rfl, hb⟩; replace HB := Lib.hid (below_on HB.out hb); clear hb)
            | (go_at_call 16; (with_reducible refine (s_rparse HR.out HO.out _).mono ?_); rintro e w' ⟨rfl, rfl⟩)
            | (go_at_call 10; (with_reducible refine (good_to HG.out _).mono ?_); rintro e w' ⟨rfl, rfl⟩)
            | (go_at_call 12; (with_reducible refine (s_isin HV.out _).mono ?_); rintro e w' ⟨rfl, rfl⟩)
            | (go_at_call 17; (with_reducible refine (s_risin HV.out _).mono ?_); rintro e w' ⟨rfl, rfl⟩)
            | (go_at_call 13; (with_reducible refine (s_both HM.out _).mono ?_); rintro e w' ⟨rfl, rfl⟩)
            | (go_at_call 18; (with_reducible refine (s_rboth HM.out _).mono ?_); rintro e w' ⟨rfl, rfl⟩)
            | (go_at_call 14; (with_reducible refine (s_less HL.out _).mono ?_); rintro e w' ⟨rfl, rfl⟩)
            | (go_at_call 19; (with_reducible refine (s_rless HL.out _).mono ?_); rintro e w' ⟨rfl, rfl⟩)
            | (go_at_call 11; (with_reducible refine (s_text HT.out _).mono ?_); rintro e w' ⟨rfl, hb⟩; replace HB := Lib.hid (below_on HB.out hb); clear hb)
            | (go_at_call 20; (with_reducible refine (s_rtext HT.out _).mono ?_); rintro e w' ⟨rfl, rfl⟩)
            | (go_at_call 15; (with_reducible refine (s_badge HK.out _).mono ?_); rintro e w' ⟨rfl, rfl⟩))
          go_ret
          exact ⟨rfl, HB.out⟩
    · have hg : inr a 7 = true := by unfold inr; simp; omega
      have hk : inr a 65535 = true := by unfold inr; simp; omega
      have h6 : a ≤ 65535 := by omega
      have HG := Lib.hid hg
      have HK := Lib.hid hk
      clear hg hk
      as_aux_lemma =>
        go_enter Try.func4, Try.ntmps4
        go_wp2_with (first
          | (go_at_call 7; (with_reducible refine (awake_any _).mono ?_); rintro e w' ⟨rfl, hb⟩; replace HB := Lib.hid (below_on HB.out hb); clear hb)
          | (go_at_call 8; (with_reducible refine (s_parse HR.out HO.out _).mono ?_); rintro e w' ⟨rfl, hb⟩; replace HB := Lib.hid (below_on HB.out hb); clear hb)
          | (go_at_call 16; (with_reducible refine (s_rparse HR.out HO.out _).mono ?_); rintro e w' ⟨rfl, rfl⟩)
          | (go_at_call 10; (with_reducible refine (good_to HG.out _).mono ?_); rintro e w' ⟨rfl, rfl⟩)
          | (go_at_call 12; (with_reducible refine (s_isin HV.out _).mono ?_); rintro e w' ⟨rfl, rfl⟩)
          | (go_at_call 17; (with_reducible refine (s_risin HV.out _).mono ?_); rintro e w' ⟨rfl, rfl⟩)
          | (go_at_call 13; (with_reducible refine (s_both HM.out _).mono ?_); rintro e w' ⟨rfl, rfl⟩)
          | (go_at_call 18; (with_reducible refine (s_rboth HM.out _).mono ?_); rintro e w' ⟨rfl, rfl⟩)
          | (go_at_call 14; (with_reducible refine (s_less HL.out _).mono ?_); rintro e w' ⟨rfl, rfl⟩)
          | (go_at_call 19; (with_reducible refine (s_rless HL.out _).mono ?_); rintro e w' ⟨rfl, rfl⟩)
          | (go_at_call 11; (with_reducible refine (s_text HT.out _).mono ?_); rintro e w' ⟨rfl, hb⟩; replace HB := Lib.hid (below_on HB.out hb); clear hb)
          | (go_at_call 20; (with_reducible refine (s_rtext HT.out _).mono ?_); rintro e w' ⟨rfl, rfl⟩)
          | (go_at_call 15; (with_reducible refine (s_badge HK.out _).mono ?_); rintro e w' ⟨rfl, rfl⟩))
        go_ret
        exact ⟨rfl, HB.out⟩
end Go.Proofs.Ytbhjjpmldhlobaa
