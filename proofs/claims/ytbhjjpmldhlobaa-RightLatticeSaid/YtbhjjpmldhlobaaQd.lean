/-
  The walk of package right's Parse: the rights whose text it is. No condition.
-/
import Derived.Test.YtbhjjpmldhlobaaQc
namespace Go.Proofs.Ytbhjjpmldhlobaa
open Go.RowKit

/-- the rights that have this text -/
def psd (s : ByteArray) : Option Nat := (List.range 8).find? fun k => (ltrs k).toList == s.toList
theorem psd_yes {s : ByteArray} {i : Nat} (hi : i < 8) (h : ((ltrs i).toList == s.toList) = true) (hn : ∀ k, k < i → ((ltrs k).toList == s.toList) = false) : psd s = some i := by
  unfold psd
  rw [List.find?_range_eq_some]
  exact ⟨h, List.mem_range.2 hi, fun j hj => by rw [hn j hj]; rfl⟩
theorem psd_no {s : ByteArray} (hn : ∀ k, k < 8 → ((ltrs k).toList == s.toList) = false) : psd s = none := by
  unfold psd
  rw [List.find?_eq_none]
  intro x hx
  rw [hn x (List.mem_range.1 hx)]
  decide
theorem text_nat (x : Nat) (hx : x < 8) (w : World) : Calls Try.prog 11 #[.int .i64 (x : Int)] w fun e w' => e = .returned (.string (ltrs x)) ∧ Below w.heap.size w w' := by
  have := text_any (x : Int) w
  rwa [held_self hx] at this

def ParseRel (W : World) (s : ByteArray) (g : Nat) (k : Nat) (q : Value) (wr : World) : Prop := ∃ i : Nat, k + i = 8 ∧ q = .int .i64 i ∧ Nf W g 8 (fun j => (j : Int)) wr ∧ ∀ k, k < i → ((ltrs k).toList == s.toList) = false

set_option maxHeartbeats 1000000 in
theorem parse_any (s : ByteArray) (w : World) : Calls Try.prog 8 #[.string s] w fun e w' => e = .returned (.tuple #[.int .i64 (((psd s).getD 0 : Nat) : Int), .bool (psd s).isSome]) ∧ Below w.heap.size w w' := by
  go_enter Try.func8, Try.ntmps8
  go_wp2_with fail
  refine (all_any _).mono ?_
  rintro e w1 ⟨g, rfl, hb⟩
  have H0 := Lib.hid hb
  clear hb
  go_wp2_with fail
  go_loopg [8] 8 (fun k q wr => ParseRel w s g k q wr)
  case atStart => exact ⟨0, by omega, rfl, H0.out, fun k hk => absurd hk (by omega)⟩
  case round =>
    obtain ⟨i, hk, rfl, hb, hn⟩ := hrel
    have HK := Lib.hid hk
    have HD := Lib.hid hb
    have HN := Lib.hid hn
    clear hk hb H0 hn
    by_cases hlt : i < 8
    · have HLT := Lib.hid hlt
      have hlt2 : (i : Int) < 8 := by omega
      have c1 := HD.out.cell i hlt
      clear hlt
      rcases hq : ((ltrs i).toList == s.toList) with _ | _
      · go_wp2_with (go_at_call 11; (with_reducible refine (text_nat i HLT.out _).mono ?_); rintro e w' ⟨rfl, hb⟩; replace HD := Lib.hid (HD.out.on hb); clear hb c1)
        go_roundg (8 - (i + 1))
        case measure => have := HK.out; have := HLT.out; omega
        case rel =>
          refine ⟨i + 1, by have := HLT.out; omega, by go_num, HD.out, fun k hk => ?_⟩
          rcases Nat.lt_succ_iff_lt_or_eq.1 hk with h | rfl
          · exact HN.out k h
          · exact hq
      · go_wp2_with (go_at_call 11; (with_reducible refine (text_nat i HLT.out _).mono ?_); rintro e w' ⟨rfl, hb⟩; replace HD := Lib.hid (HD.out.on hb); clear hb c1)
        go_ret2
        rw [psd_yes HLT.out hq HN.out]
        exact ⟨rfl, HD.out.old⟩
    · have hlt2 : ¬ (i : Int) < 8 := by omega
      have hi : i = 8 := by have := HK.out; omega
      clear hlt
      go_wp2
      go_ret2
      rw [psd_no (hi ▸ HN.out)]
      exact ⟨rfl, HD.out.old⟩
end Go.Proofs.Ytbhjjpmldhlobaa
