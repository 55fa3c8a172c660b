/-
  The walks of the reference's RightText and RightParse. No condition.
-/
import Derived.Test.YtlhdpmkakmkknaaDoorQe
namespace Go.Proofs.YtlhdpmkakmkknaaDoor
open Go.RowKit

theorem full1 : ∀ u ∈ [114, 119, 103], ((⟨#[]⟩ : ByteArray) ++ ⟨#[u]⟩).toList.isEmpty = false := by decide +kernel
theorem full2 : ∀ u ∈ [114, 119], ∀ v ∈ [119, 103], ((⟨#[]⟩ : ByteArray) ++ ⟨#[u]⟩ ++ ⟨#[v]⟩).toList.isEmpty = false := by decide +kernel
theorem full3 : ((⟨#[]⟩ : ByteArray) ++ ⟨#[114]⟩ ++ ⟨#[119]⟩ ++ ⟨#[103]⟩).toList.isEmpty = false := by decide +kernel

set_option maxHeartbeats 4000000 in
theorem rtext_any (a : Int) (w : World) : Calls Tryd.prog 40 #[.int .i64 a] w fun e w' => e = .returned (.string (ltrs (held a))) ∧ w = w' := by
  generalize hx : held a = x
  have HX := Lib.hid hx
  have h8 := hx ▸ held_lt a
  clear hx
  have a1 := full1 114 (by simp)
  have a2 := full1 119 (by simp)
  have a3 := full1 103 (by simp)
  have a4 := full2 114 (by simp) 119 (by simp)
  have a5 := full2 114 (by simp) 103 (by simp)
  have a6 := full2 119 (by simp) 103 (by simp)
  have a7 := full3
  match x, h8 with
  | 0, _ | 1, _ | 2, _ | 3, _ | 4, _ | 5, _ | 6, _ | 7, _ =>
    go_enter Tryd.func40, Tryd.ntmps40
    go_wp2_with (go_at_call 48; (with_reducible refine (rheld_any _ _).mono ?_); rintro e w' ⟨rfl, rfl⟩; rw [HX.out])
    go_ret
    exact ⟨by kernel_rfl, rfl⟩

theorem rtext_nat (x : Nat) (hx : x < 8) (w : World) : Calls Tryd.prog 40 #[.int .i64 (x : Int)] w fun e w' => e = .returned (.string (ltrs x)) ∧ w = w' := by
  have := rtext_any (x : Int) w
  rwa [held_self hx] at this

def RParseRel (W : World) (s : ByteArray) (k : Nat) (q : Value) (wr : World) : Prop := ∃ i : Nat, k + i = 8 ∧ q = .int .i64 i ∧ W = wr ∧ ∀ k, k < i → ((ltrs k).toList == s.toList) = false

end Go.Proofs.YtlhdpmkakmkknaaDoor
