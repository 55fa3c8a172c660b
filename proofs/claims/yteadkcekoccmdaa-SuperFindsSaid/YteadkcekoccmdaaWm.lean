/-
  The walks of rest and Sum of package reeveref1, the document's own answer: the same sum as the list function spin. Condition: the list lies in memory.
-/
import Derived.Test.YteadkcekoccmdaaWf
namespace Go.Proofs.Yteadkcekoccmdaa
open Go.RowKit Flo

theorem tmod_two (n : Int) : (n.tmod 1000003 < 0 ∧ n.tmod 1000003 + 1000003 = res n) ∨ (0 ≤ n.tmod 1000003 ∧ n.tmod 1000003 = res n) := by
  have h1 := Int.tmod_lt_of_pos n (b := 1000003) (by omega)
  have h2 := Int.lt_tmod_of_pos n (b := 1000003) (by omega)
  have h3 := Int.tmod_def n 1000003
  unfold res
  omega

set_option maxHeartbeats 400000 in
theorem rrest_is (n : Int) (w : World) :
    Calls Try.prog 32 #[.int .i64 n] w fun e w' => e = .returned (.int .i64 (res n)) ∧ w = w' := by
  obtain ⟨b1, b2, _⟩ := tmod_facts n
  rcases tmod_two n with ⟨h1, h2⟩ | ⟨h1, h2⟩
  · go_enter Try.func32, Try.ntmps32
    go_wp2
    go_ret
    exact ⟨rfl, rfl⟩
  · go_enter Try.func32, Try.ntmps32
    go_wp2
    go_ret
    exact ⟨rfl, rfl⟩

set_option maxHeartbeats 400000 in
theorem rsum_any (A : Option Addr) (cap : Nat) (zs : List Int) (w : World) (hl : zs.length ≤ maxLen) (hL : Lies w w.heap.size A zs) (hW : Wds zs) :
    Calls Try.prog 25 #[.slice A zs.length cap] w fun e w' => e = .returned (.tuple #[.int .i64 (spin zs).1, .int .i64 (spin zs).2]) ∧ w = w' := by
  unfold maxLen at hl
  have HL := Lib.hid hL
  have HW := Lib.hid hW
  clear hL hW
  obtain ⟨n, hn⟩ : ∃ n, n = zs.length := ⟨_, rfl⟩
  rw [← hn] at hl ⊢
  have HN := Lib.hid hn
  clear hn
  go_enter Try.func25, Try.ntmps25
  go_wp2
  go_loop [4, 5, 6] (fun a b i => ∃ k : Nat, k ≤ n ∧ i = .int .i64 k ∧ a = .int .i64 (spin (zs.take k)).1 ∧ b = .int .i64 (spin (zs.take k)).2) (fun _ _ i => n - (intOf i).toNat)
  case atStart => exact ⟨0, Nat.zero_le _, rfl, rfl, rfl⟩
  case round =>
    obtain ⟨k, hk, rfl, rfl, rfl⟩ := hrel
    by_cases hlt : k < n
    · obtain ⟨ad, rfl, hb, hcell⟩ := HL.out (by rw [← HN.out]; omega)
      have hc := hcell k (by rw [← HN.out]; exact hlt)
      have hwd := HW.out.at (k := k) (by rw [← HN.out]; exact hlt)
      have HS1 := congrArg Prod.fst (spin_snoc zs k (by rw [← HN.out]; exact hlt))
      have HS2 := congrArg Prod.snd (spin_snoc zs k (by rw [← HN.out]; exact hlt))
      obtain ⟨⟨a0, a1⟩, b0, b1⟩ := spin_range (zs.take k)
      clear hcell hb
      simp only [step] at HS1 HS2
      generalize zs.getD k 0 = x at *
      generalize (spin (zs.take k)).1 = a at *
      generalize (spin (zs.take k)).2 = b at *
      obtain ⟨x0, x1⟩ := hwd
      have s1 : x / 65536 / 65536 % 65536 = x / 4294967296 % 65536 := by omega
      have s2 : x / 65536 / 65536 / 65536 = x / 281474976710656 := by omega
      unfold stepA at HS1
      unfold stepB at HS2
      have hs1 := Lib.hid HS1
      have hs2 := Lib.hid HS2
      have r1 : 0 ≤ x % 65536 ∧ x % 65536 ≤ 65535 := by omega
      have r2 : 0 ≤ x / 65536 % 65536 ∧ x / 65536 % 65536 ≤ 65535 := by omega
      have r3 : 0 ≤ x / 4294967296 % 65536 ∧ x / 4294967296 % 65536 ≤ 65535 := by omega
      have r4 : 0 ≤ x / 281474976710656 ∧ x / 281474976710656 ≤ 65535 := by omega
      obtain ⟨r10, r11⟩ := r1
      obtain ⟨r20, r21⟩ := r2
      obtain ⟨r30, r31⟩ := r3
      obtain ⟨r40, r41⟩ := r4
      clear HS1 HS2
      go_wp2_with (go_at_call 32; ((with_reducible refine (rrest_is _ _).mono ?_); rintro e w' ⟨rfl, rfl⟩))
      go_round
      case rel => exact ⟨k + 1, by omega, by go_num, by rw [hs1.out], by rw [hs2.out]⟩
      case measure => simp [intOf]; omega
    · obtain rfl : k = n := by omega
      clear hk hlt
      go_wp2
      go_ret2
      exact ⟨by rw [List.take_of_length_le (by rw [← HN.out]; omega)]; rfl, rfl⟩

end Go.Proofs.Yteadkcekoccmdaa
