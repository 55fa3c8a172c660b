/-
  The walks of the reference's two, Bit and Ver. Condition: the bit is one of a word.
-/
import Derived.Test.YtjmenekhdkpaaaaTh
namespace Go.Proofs.Ytjmenekhdkpaaaa
open Go.RowKit

def TwoRel (W : World) (n : Nat) (j : Nat) (p q : Value) (wr : World) : Prop :=
  ∃ i : Nat, j + i = n ∧ p = .int .u64 ((2 ^ i : Nat) : Int) ∧ q = .int .i64 i ∧ W = wr
theorem pow_lt {i : Nat} (h : i < 64) : 2 ^ i ≤ 9223372036854775808 := by
  have := Nat.pow_le_pow_right (n := 2) (by decide) (show i ≤ 63 by omega)
  omega

set_option maxHeartbeats 1000000 in
theorem two_any (n : Nat) (hn : n < 64) (w : World) : Calls Try.prog 26 #[.int .i64 (n : Int)] w fun e w' => e = .returned (.int .u64 ((2 ^ n : Nat) : Int)) ∧ w = w' := by
  have HN := Lib.hid hn
  clear hn
  go_enter Try.func26, Try.ntmps26
  go_wp2_with fail
  go_loopg [3, 4] n (fun j p q wr => TwoRel w n j p q wr)
  case atStart => exact ⟨0, by omega, rfl, rfl, rfl⟩
  case round =>
    obtain ⟨i, hk, rfl, rfl, rfl⟩ := hrel
    have HK := Lib.hid hk
    clear hk
    by_cases hlt : i < n
    · have HLT := Lib.hid hlt
      have hlt2 : (i : Int) < (n : Int) := by omega
      obtain ⟨p, hp⟩ : ∃ p, p = 2 ^ i := ⟨_, rfl⟩
      have HP := Lib.hid hp
      rw [← hp]
      clear hp
      go_wp2_with fail
      go_roundg (n - (i + 1))
      case measure => have := HK.out; have := HLT.out; omega
      case rel =>
        have h1 := HP.out
        have h3 : i < 63 := by have := HLT.out; have := HN.out; omega
        have h2 : 2 ^ i ≤ 4611686018427387904 := by
          have := Nat.pow_le_pow_right (n := 2) (by decide) (show i ≤ 62 by omega)
          omega
        refine ⟨i + 1, by have := HLT.out; omega, ?_, congrArg (Value.int .i64) (by unfold wrap64; omega), rfl⟩
        have e : 2 ^ (i + 1) = 2 * p := by rw [h1, Nat.pow_succ, Nat.mul_comm]
        rw [← h1] at h2
        rw [IntKind.wrap_u64, e]
        congr 1
        omega
    · obtain ⟨p, hp⟩ : ∃ p, p = 2 ^ i := ⟨_, rfl⟩
      have HP := Lib.hid hp
      rw [← hp]
      clear hp
      go_wp2
      go_ret
      have hi : i = n := by have := HK.out; omega
      rw [HP.out, hi]
      exact ⟨rfl, rfl⟩

theorem two_at {n p : Nat} (hn : n < 64) (hp : 2 ^ n = p) (w : World) : Calls Try.prog 26 #[.int .i64 (n : Int)] w fun e w' => e = .returned (.int .u64 (p : Int)) ∧ w = w' := by
  subst hp
  exact two_any n hn w

/-- bit n of a word -/
theorem bit_any (z n : Nat) (hz : z ≤ top) (hn : n < 64) (w : World) : Calls Try.prog 27 #[.int .u64 (z : Int), .int .i64 (n : Int)] w fun e w' => e = .returned (.bool (z.testBit n)) ∧ w = w' := by
  obtain ⟨p, hp⟩ : ∃ p, 2 ^ n = p := ⟨_, rfl⟩
  have HP := Lib.hid hp
  have hp0 : 0 < p := by rw [← hp]; exact Nat.two_pow_pos _
  have hb : ((z : Int) / (p : Int) % 2 == 1) = z.testBit n := by
    rw [Nat.testBit_eq_decide_div_mod_eq, hp]
    have : (z : Int) / (p : Int) % 2 = ((z / p % 2 : Nat) : Int) := by simp
    rw [this]
    by_cases h : z / p % 2 = 1
    · simp [h]
    · simp [h]; omega
  have HB := Lib.hid hb
  have HN := Lib.hid hn
  have HZ := Lib.hid hz
  have hp1 : ((p : Int) == 0) = false := by simp; omega
  clear hp hb hn hz
  go_enter Try.func27, Try.ntmps27
  go_wp2_with fail
  refine (two_at HN.out HP.out _).mono ?_
  rintro e w' ⟨rfl, rfl⟩
  go_wp2_with fail
  go_ret
  refine ⟨?_, rfl⟩
  rw [← HB.out]
  have e : (IntKind.u64.wrap ((z : Int) / (p : Int))).tmod 2 = (z : Int) / (p : Int) % 2 := by
    have e1 : (z : Int) / (p : Int) = ((z / p : Nat) : Int) := by simp
    have h1 : z / p ≤ z := Nat.div_le_self _ _
    have h2 := HZ.out
    unfold top at h2
    rw [e1]
    generalize z / p = m at h1 ⊢
    rw [IntKind.wrap_u64, Int.emod_eq_of_lt (by omega) (by omega), Int.tmod_eq_emod_of_nonneg (by omega)]
  exact congrArg (fun b => Ending.returned (.bool b)) (congrArg (fun y : Int => y == 1) e)

theorem refver_any (v : Nat) (n : Int) (w : World) : Calls Try.prog 19 #[.int .u64 (v : Int), .int .i64 n] w fun e w' => e = .returned (putV (mk v n)) ∧ w = w' := by
  by_cases h1 : v ≤ 281474976710655
  · by_cases h2 : 0 ≤ n
    · by_cases h3 : n ≤ 65535
      · obtain ⟨k, rfl⟩ := Int.eq_ofNat_of_zero_le h2
        have H1 := Lib.hid h1
        have H3 : Hid (k ≤ 65535) := Lib.hid (by omega)
        have d1 : decide ((281474976710656 : Int) ≤ (v : Int)) = false := by simp; omega
        have d2 : decide ((k : Int) < 0) = false := by simp
        have d3 : decide ((65535 : Int) < (k : Int)) = false := by simp; omega
        clear h2
        go_enter Try.func19, Try.ntmps19
        go_wp2_with fail
        refine (two_at (n := 48) (p := 281474976710656) (by decide) (by decide) _).mono ?_
        rintro e w' ⟨rfl, rfl⟩
        go_wp2_with fail
        refine (two_at (n := 48) (p := 281474976710656) (by decide) (by decide) _).mono ?_
        rintro e w' ⟨rfl, rfl⟩
        go_wp2
        go_ret2
        rw [mk_yes H1.out H3.out]
        refine ⟨?_, rfl⟩
        have e : ((v : Int) + (k : Int) * 281474976710656) = ((k * 281474976710656 + v : Nat) : Int) := by omega
        exact congrArg (fun y : Int => Ending.returned (.tuple #[.int .u64 y, .bool true])) e
      · have H : Hid (mk v n = none) := Lib.hid (mk_no fun q => h3 q.2.2)
        have d1 : decide ((281474976710656 : Int) ≤ (v : Int)) = false := by simp; omega
        have d2 : decide (n < 0) = false := by simp; omega
        have d3 : decide ((65535 : Int) < n) = true := by simp; omega
        clear h1 h2 h3
        go_enter Try.func19, Try.ntmps19
        go_wp2_with fail
        refine (two_at (n := 48) (p := 281474976710656) (by decide) (by decide) _).mono ?_
        rintro e w' ⟨rfl, rfl⟩
        go_wp2
        go_ret2
        rw [H.out]
        exact ⟨rfl, rfl⟩
    · have H : Hid (mk v n = none) := Lib.hid (mk_no fun q => h2 q.2.1)
      have d1 : decide ((281474976710656 : Int) ≤ (v : Int)) = false := by simp; omega
      have d2 : decide (n < 0) = true := by simp; omega
      clear h1 h2
      go_enter Try.func19, Try.ntmps19
      go_wp2_with fail
      refine (two_at (n := 48) (p := 281474976710656) (by decide) (by decide) _).mono ?_
      rintro e w' ⟨rfl, rfl⟩
      go_wp2
      go_ret2
      rw [H.out]
      exact ⟨rfl, rfl⟩
  · have H : Hid (mk v n = none) := Lib.hid (mk_no fun q => h1 q.1)
    have d1 : decide ((281474976710656 : Int) ≤ (v : Int)) = true := by simp; omega
    clear h1
    go_enter Try.func19, Try.ntmps19
    go_wp2_with fail
    refine (two_at (n := 48) (p := 281474976710656) (by decide) (by decide) _).mono ?_
    rintro e w' ⟨rfl, rfl⟩
    go_wp2
    go_ret2
    rw [H.out]
    exact ⟨rfl, rfl⟩
end Go.Proofs.Ytjmenekhdkpaaaa
