/-
  The walks of the reference's RightText and RightParse. No condition.
-/
import Derived.Test.YtbhjjpmldhlobaaQe
namespace Go.Proofs.Ytbhjjpmldhlobaa
open Go.RowKit

theorem full1 : ∀ u ∈ [114, 119, 103], ((⟨#[]⟩ : ByteArray) ++ ⟨#[u]⟩).toList.isEmpty = false := by decide +kernel
theorem full2 : ∀ u ∈ [114, 119], ∀ v ∈ [119, 103], ((⟨#[]⟩ : ByteArray) ++ ⟨#[u]⟩ ++ ⟨#[v]⟩).toList.isEmpty = false := by decide +kernel
theorem full3 : ((⟨#[]⟩ : ByteArray) ++ ⟨#[114]⟩ ++ ⟨#[119]⟩ ++ ⟨#[103]⟩).toList.isEmpty = false := by decide +kernel

set_option maxHeartbeats 4000000 in
theorem rtext_any (a : Int) (w : World) : Calls Try.prog 20 #[.int .i64 a] w fun e w' => e = .returned (.string (ltrs (held a))) ∧ w = w' := by
  generalize hx : held a = x
  have HX := Lib.hid hx
  have h8 := hx ▸ held_lt a
  clear hx
  have a1 := full1 114 (by simp)
  have a2 := full1 119 (by simp)
  have a3 := full1 103 (by simp)
  have a4 := full2 114 (by simp) 119 (by simp)
  have a5 := full2 114 (by simp) 103 (by simp)
  have a6 := full2 119 (by simp) 103 (by simp)
  have a7 := full3
  match x, h8 with
  | 0, _ | 1, _ | 2, _ | 3, _ | 4, _ | 5, _ | 6, _ | 7, _ =>
    go_enter Try.func20, Try.ntmps20
    go_wp2_with (go_at_call 23; (with_reducible refine (rheld_any _ _).mono ?_); rintro e w' ⟨rfl, rfl⟩; rw [HX.out])
    go_ret
    exact ⟨by kernel_rfl, rfl⟩

theorem rtext_nat (x : Nat) (hx : x < 8) (w : World) : Calls Try.prog 20 #[.int .i64 (x : Int)] w fun e w' => e = .returned (.string (ltrs x)) ∧ w = w' := by
  have := rtext_any (x : Int) w
  rwa [held_self hx] at this

def RParseRel (W : World) (s : ByteArray) (k : Nat) (q : Value) (wr : World) : Prop := ∃ i : Nat, k + i = 8 ∧ q = .int .i64 i ∧ W = wr ∧ ∀ k, k < i → ((ltrs k).toList == s.toList) = false

set_option maxHeartbeats 1000000 in
theorem rparse_any (s : ByteArray) (w : World) : Calls Try.prog 16 #[.string s] w fun e w' => e = .returned (.tuple #[.int .i64 (((psd s).getD 0 : Nat) : Int), .bool (psd s).isSome]) ∧ w = w' := by
  go_enter Try.func16, Try.ntmps16
  go_wp2_with fail
  go_loopg [4] 8 (fun k q wr => RParseRel w s k q wr)
  case atStart => exact ⟨0, by omega, rfl, rfl, fun k hk => absurd hk (by omega)⟩
  case round =>
    obtain ⟨i, hk, rfl, rfl, hn⟩ := hrel
    have HK := Lib.hid hk
    have HN := Lib.hid hn
    clear hk hn
    by_cases hlt : i < 8
    · have HLT := Lib.hid hlt
      have hlt2 : (i : Int) < 8 := by omega
      clear hlt
      rcases hq : ((ltrs i).toList == s.toList) with _ | _
      · go_wp2_with (go_at_call 20; (with_reducible refine (rtext_nat i HLT.out _).mono ?_); rintro e w' ⟨rfl, rfl⟩)
        go_roundg (8 - (i + 1))
        case measure => have := HK.out; have := HLT.out; omega
        case rel =>
          refine ⟨i + 1, by have := HLT.out; omega, by go_num, rfl, fun k hk => ?_⟩
          rcases Nat.lt_succ_iff_lt_or_eq.1 hk with h | rfl
          · exact HN.out k h
          · exact hq
      · go_wp2_with (go_at_call 20; (with_reducible refine (rtext_nat i HLT.out _).mono ?_); rintro e w' ⟨rfl, rfl⟩)
        go_ret2
        rw [psd_yes HLT.out hq HN.out]
        exact ⟨rfl, rfl⟩
    · have hlt2 : ¬ (i : Int) < 8 := by omega
      have hi : i = 8 := by have := HK.out; omega
      clear hlt
      go_wp2
      go_ret2
      rw [psd_no (hi ▸ HN.out)]
      exact ⟨rfl, rfl⟩
end Go.Proofs.Ytbhjjpmldhlobaa
