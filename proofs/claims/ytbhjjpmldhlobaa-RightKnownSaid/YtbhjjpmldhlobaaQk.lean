/-
  The walk of the law RightKnown: it answers true. No condition.
-/
import Derived.Test.YtbhjjpmldhlobaaQj
namespace Go.Proofs.Ytbhjjpmldhlobaa
open Go.RowKit

def nots : List ByteArray := [⟨#[]⟩, ⟨#[120]⟩, ⟨#[119, 114]⟩, ⟨#[114, 114]⟩, ⟨#[82]⟩, ⟨#[103, 119]⟩, ⟨#[114, 103, 119]⟩, ⟨#[45, 32]⟩, ⟨#[114, 119, 103, 120]⟩]
def seen : List (Option Nat) := nots.map psd
theorem seen_none : seen = List.replicate 9 none := by decide +kernel
theorem nots_no {i : Nat} {s : ByteArray} (h : nots[i]? = some s) : psd s = none := by
  have h2 : seen[i]? = some (psd s) := by unfold seen; rw [List.getElem?_map, h]; rfl
  rw [seen_none, List.getElem?_replicate] at h2
  split at h2
  · exact (Option.some.inj h2).symm
  · cases h2
def ncells : Array Value := #[.string ⟨#[]⟩, .string ⟨#[120]⟩, .string ⟨#[119, 114]⟩, .string ⟨#[114, 114]⟩, .string ⟨#[82]⟩, .string ⟨#[103, 119]⟩, .string ⟨#[114, 103, 119]⟩, .string ⟨#[45, 32]⟩, .string ⟨#[114, 119, 103, 120]⟩]

/-- the texts lie in block B; what was before stands -/
def Ns (w0 : World) (B : Nat) (w : World) : Prop :=
  (B < w.heap.size ∧ ∀ (i : Nat) (s : ByteArray), nots[i]? = some s → w.cell? ⟨B, i, none⟩ = some (.string s)) ∧ Below w0.heap.size w0 w
theorem Ns.on {w0 w w' : World} {B : Nat} (h : Ns w0 B w) (hb : Below w.heap.size w w') : Ns w0 B w' :=
  ⟨⟨Nat.lt_of_lt_of_le h.1.1 hb.size, fun i s hs => by
    rw [hb.cell (p := ⟨B, _, none⟩) h.1.1]
    exact h.1.2 i s hs⟩, below_on h.2 hb⟩
theorem Ns.new {w0 w : World} (hb : Below w0.heap.size w0 w) : Ns w0 w.heap.size (w.alloc (.cells ncells 9)) := by
  have hg := heap_alloc_new w (.cells ncells 9)
  refine ⟨⟨by simp, fun i s hi => ?_⟩, below_on hb (below_alloc _ _)⟩
  rw [cell_of_row _ _ i _ _ _ hg]
  match i, hi with
  | 0, hi | 1, hi | 2, hi | 3, hi | 4, hi | 5, hi | 6, hi | 7, hi | 8, hi => injection hi with hi; subst hi; rfl
  | i + 9, hi => exact absurd hi (by simp [nots])

def KnownRel (W : World) (B : Nat) (k : Nat) (q : Value) (wr : World) : Prop := ∃ i : Nat, k + i = 9 ∧ q = .int .i64 i ∧ Ns W B wr

theorem parse_no {s : ByteArray} (h : psd s = none) (w : World) : Calls Try.prog 8 #[.string s] w fun e w' => e = .returned (.tuple #[.int .i64 0, .bool false]) ∧ Below w.heap.size w w' := by
  have := parse_any s w
  rwa [h] at this
theorem parse_dash (w : World) : Calls Try.prog 8 #[.string ⟨#[45]⟩] w fun e w' => e = .returned (.tuple #[.int .i64 0, .bool true]) ∧ Below w.heap.size w w' := by
  have := parse_any ⟨#[45]⟩ w
  rwa [show psd ⟨#[45]⟩ = some 0 from by decide +kernel] at this

set_option maxRecDepth 100000 in
set_option maxHeartbeats 4000000 in
theorem known_walk (w : World) : Calls Try.prog 3 #[] w fun e w' => e = .returned (.bool true) ∧ Below w.heap.size w w' := by
  go_enter Try.func3, Try.ntmps3
  go_wp2_with fail
  refine (awake_any _).mono ?_
  rintro e w1 ⟨rfl, hb⟩
  have HB := Lib.hid (Ns.new hb)
  clear hb
  go_wp2_with fail
  go_loopg [2] 9 (fun k q wr => KnownRel w w1.heap.size k q wr)
  case atStart => exact ⟨0, by omega, rfl, HB.out⟩
  case round =>
    obtain ⟨i, hk, rfl, hb⟩ := hrel
    have HK := Lib.hid hk
    have HD := Lib.hid hb
    clear hk hb HB
    by_cases hlt : i < 9
    · have HLT := Lib.hid hlt
      have hlt2 : (i : Int) < 9 := by omega
      obtain ⟨s, hs⟩ : ∃ s, nots[i]? = some s := ⟨nots[i]'hlt, List.getElem?_eq_getElem _⟩
      have HN := Lib.hid (nots_no hs)
      have c1 := HD.out.1.2 i s hs
      clear hs
      go_wp2_with (go_at_call 8; (with_reducible refine (parse_no HN.out _).mono ?_); rintro e w' ⟨rfl, hb⟩; replace HD := Lib.hid (HD.out.on hb); clear hb c1)
      go_roundg (9 - (i + 1))
      case measure => have := HK.out; have := HLT.out; omega
      case rel => exact ⟨i + 1, by have := HLT.out; omega, by go_num, HD.out⟩
    · have hlt2 : ¬ (i : Int) < 9 := by omega
      have HB := Lib.hid HD.out.2
      clear HD HK hlt
      go_wp2_with fail
      refine (parse_dash _).mono ?_
      rintro e w2 ⟨rfl, hb⟩
      replace HB := Lib.hid (below_on HB.out hb)
      clear hb
      go_wp2_with fail
      refine (all_any _).mono ?_
      rintro e w3 ⟨g, rfl, hb⟩
      have HD := Lib.hid (hb.from HB.out)
      have c0 := HD.out.cell 0 (by decide)
      have c7 := HD.out.cell 7 (by decide)
      clear hb
      go_wp2_with (first
        | (go_at_call 10; (with_reducible refine (good_to (x := 8) (b := false) (by decide) _).mono ?_); rintro e w' ⟨rfl, rfl⟩)
        | (go_at_call 10; (with_reducible refine (good_to (x := -1) (b := false) (by decide) _).mono ?_); rintro e w' ⟨rfl, rfl⟩)
        | (go_at_call 11; (with_reducible refine (s_text (a := 0) (t := ⟨#[45]⟩) rfl _).mono ?_); rintro e w' ⟨rfl, hb⟩; replace HD := Lib.hid (HD.out.on hb); clear hb c0 c7; have c0 := HD.out.cell 0 (by decide); have c7 := HD.out.cell 7 (by decide))
        | (go_at_call 11; (with_reducible refine (s_text (a := 9) (t := ⟨#[45]⟩) rfl _).mono ?_); rintro e w' ⟨rfl, hb⟩; replace HD := Lib.hid (HD.out.on hb); clear hb c0 c7; have c0 := HD.out.cell 0 (by decide); have c7 := HD.out.cell 7 (by decide))
        | (go_at_call 12; (with_reducible refine (s_isin (a := 9) (b := 0) (v := true) (by decide) _).mono ?_); rintro e w' ⟨rfl, rfl⟩)
        | (go_at_call 12; (with_reducible refine (s_isin (a := 3) (b := 7) (v := true) (by decide) _).mono ?_); rintro e w' ⟨rfl, rfl⟩)
        | (go_at_call 12; (with_reducible refine (s_isin (a := 4) (b := 3) (v := false) (by decide) _).mono ?_); rintro e w' ⟨rfl, rfl⟩)
        | (go_at_call 13; (with_reducible refine (s_both (a := 6) (b := 3) (m := 2) (by decide) _).mono ?_); rintro e w' ⟨rfl, rfl⟩)
        | (go_at_call 14; (with_reducible refine (s_less (a := 6) (b := 3) (l := 4) (by decide) _).mono ?_); rintro e w' ⟨rfl, rfl⟩)
        | (go_at_call 15; (with_reducible refine (s_badge (a := 0) (k := true) (by decide) _).mono ?_); rintro e w' ⟨rfl, rfl⟩)
        | (go_at_call 15; (with_reducible refine (s_badge (a := 65535) (k := true) (by decide) _).mono ?_); rintro e w' ⟨rfl, rfl⟩)
        | (go_at_call 15; (with_reducible refine (s_badge (a := 65536) (k := false) (by decide) _).mono ?_); rintro e w' ⟨rfl, rfl⟩)
        | (go_at_call 15; (with_reducible refine (s_badge (a := -1) (k := false) (by decide) _).mono ?_); rintro e w' ⟨rfl, rfl⟩))
      go_ret
      exact ⟨rfl, HD.out.old⟩
end Go.Proofs.Ytbhjjpmldhlobaa
