/-
  The walk of the law TagVersions: it answers true. No condition.
-/
import Derived.Test.YtjmenekhdkpaaaaTg
import Derived.OpenShut
namespace Go.Proofs.Ytjmenekhdkpaaaa
open Go.RowKit

theorem make_yes {v k : Nat} (h1 : v ≤ 281474976710655) (h2 : k ≤ 65535) (w : World) : Calls Try.prog 13 #[.int .u64 (v : Int), .int .i64 (k : Int)] w fun e w' => e = .returned (.tuple #[.int .u64 ((k * 281474976710656 + v : Nat) : Int), .bool true]) ∧ w = w' := by
  have := make_any v k w
  rw [mk_yes h1 h2] at this
  exact this
theorem make_no {v : Nat} {k : Int} (h : ¬ (v ≤ 281474976710655 ∧ 0 ≤ k ∧ k ≤ 65535)) (w : World) : Calls Try.prog 13 #[.int .u64 (v : Int), .int .i64 k] w fun e w' => e = .returned (.tuple #[.int .u64 0, .bool false]) ∧ w = w' := by
  have := make_any v k w
  rw [mk_no h] at this
  exact this
theorem next_yes {v q z r : Nat} (hv : v ≤ top) (hq : v / 281474976710656 = q) (hz : z ≤ 281474976710655) (hr : (q + 1) % 65536 * 281474976710656 + z = r) (w : World) :
    Calls Try.prog 14 #[.int .u64 (v : Int), .int .u64 (z : Int)] w fun e w' => e = .returned (.tuple #[.int .u64 (r : Int), .bool true]) ∧ w = w' := by
  have := next_any v z hv w
  rw [hq, mk_yes hz (by omega), hr] at this
  exact this
theorem value_at {v z : Nat} (hv : v ≤ top) (hz : v % 281474976710656 = z) (w : World) : Calls Try.prog 15 #[.int .u64 (v : Int)] w fun e w' => e = .returned (.int .u64 (z : Int)) ∧ w = w' := by
  have := value_any v hv w
  rw [hz] at this
  exact this

def VerRel (W : World) (n k : Nat) (j : Nat) (p q : Value) (wr : World) : Prop :=
  ∃ i z : Nat, j + i = n ∧ p = .int .u64 (z : Int) ∧ q = .int .i64 i ∧ z ≤ top ∧ z / 281474976710656 = (k + i) % 65536 ∧ Below W.heap.size W wr

set_option maxHeartbeats 1000000 in
theorem versions_in (v : Nat) (k n : Int) (hv : v ≤ top) (w : World) : Calls Try.prog 7 #[.int .u64 (v : Int), .int .i64 k, .int .i64 n] w fun e w' => e = .returned (.bool true) ∧ Below w.heap.size w w' := by
  have HV := Lib.hid hv
  by_cases hm : v ≤ 281474976710655 ∧ 0 ≤ k ∧ k ≤ 65535
  · obtain ⟨h1, h2, h3⟩ := hm
    obtain ⟨k, rfl⟩ := Int.eq_ofNat_of_zero_le h2
    have H1 := Lib.hid h1
    have H3 : Hid (k ≤ 65535) := Lib.hid (by omega)
    clear h1 h2 h3
    by_cases hn : 0 ≤ n
    · by_cases hn2 : n ≤ 70
      · obtain ⟨n, rfl⟩ := Int.eq_ofNat_of_zero_le hn
        have hn3 : n ≤ 70 := by omega
        have d1 : decide ((n : Int) < 0) = false := by simp
        have d2 : decide ((70 : Int) < (n : Int)) = false := by simp; omega
        obtain ⟨z0, hz0⟩ : ∃ z0, z0 = k * 281474976710656 + v := ⟨_, rfl⟩
        have HZ0 := Lib.hid hz0
        clear hz0 hn hn2 hv
        go_enter Try.func7, Try.ntmps7
        go_wp2_with fail
        refine (awake_any _).mono ?_
        rintro e w1 ⟨rfl, hb⟩
        have HB := Lib.hid hb
        clear hb
        go_wp2_with fail
        refine (make_yes H1.out H3.out _).mono ?_
        rw [← HZ0.out]
        rintro e w' ⟨rfl, rfl⟩
        go_wp2_with fail
        go_loopg [7, 9] n (fun j p q wr => VerRel w n k j p q wr)
        case atStart => exact ⟨0, z0, by omega, rfl, rfl, by have := HZ0.out; have := H1.out; have := H3.out; unfold top; omega, by have := HZ0.out; have := H1.out; have := H3.out; omega, HB.out⟩
        case round =>
          obtain ⟨i, z, hk, rfl, rfl, hz, hq, hb⟩ := hrel
          have HK := Lib.hid hk
          have HZ := Lib.hid hz
          have HQ := Lib.hid hq
          have HB2 := Lib.hid hb
          clear hk hz hq hb HB
          by_cases hlt : i < n
          · have HLT := Lib.hid hlt
            have hlt2 : (i : Int) < (n : Int) := by omega
            obtain ⟨r, hr⟩ : ∃ r, ((k + i) % 65536 + 1) % 65536 * 281474976710656 + i = r := ⟨_, rfl⟩
            have HR := Lib.hid hr
            have HI : Hid (i ≤ 281474976710655) := Lib.hid (by omega)
            have HT : Hid (r ≤ top) := Lib.hid (by unfold top; omega)
            have HE : Hid (r % 281474976710656 = i) := Lib.hid (by omega)
            have HE2 : Hid (r / 281474976710656 = (k + (i + 1)) % 65536) := Lib.hid (by
              have e1 : ((k + i) % 65536 + 1) % 65536 = (k + (i + 1)) % 65536 := by omega
              rw [e1] at hr
              omega)
            clear hr
            go_wp2_with fail
            refine (next_yes HZ.out HQ.out HI.out HR.out _).mono ?_
            rintro e w' ⟨rfl, rfl⟩
            go_wp2_with fail
            refine (value_at HT.out HE.out _).mono ?_
            rintro e w' ⟨rfl, rfl⟩
            go_wp2_with fail
            go_roundg (n - (i + 1))
            case measure => have := HK.out; have := HLT.out; omega
            case rel => exact ⟨i + 1, r, by have := HLT.out; omega, rfl, by go_num, HT.out, HE2.out, HB2.out⟩
          · obtain ⟨q, hq⟩ : ∃ q, q = z / 281474976710656 := ⟨_, rfl⟩
            have HQ2 := Lib.hid hq
            clear hq
            go_wp2_with fail
            refine (version_any z q HZ.out HQ2.out _).mono ?_
            rintro e w' ⟨rfl, rfl⟩
            go_wp2_with fail
            go_ret
            refine ⟨?_, HB2.out⟩
            have e1 : q = (k + n) % 65536 := by have := HQ.out; have := HQ2.out; have := HK.out; omega
            have e2 : wrap64 ((k : Int) + (n : Int)) = ((k + n : Nat) : Int) := by unfold wrap64; have := H3.out; omega
            have e3 : ((q : Int) == (wrap64 ((k : Int) + (n : Int))).tmod 65536) = true := by
              rw [e2, Int.tmod_eq_emod_of_nonneg (by omega), e1]
              simp
            exact congrArg (fun b => Ending.returned (.bool b)) e3
      · have d1 : decide (n < 0) = false := by simp; omega
        have d2 : decide ((70 : Int) < n) = true := by simp; omega
        go_enter Try.func7, Try.ntmps7
        go_wp2_with fail
        refine (awake_any _).mono ?_
        rintro e w1 ⟨rfl, hb⟩
        have HB := Lib.hid hb
        clear hb
        go_wp2_with fail
        refine (make_yes H1.out H3.out _).mono ?_
        rintro e w' ⟨rfl, rfl⟩
        go_wp2
        go_ret
        exact ⟨rfl, HB.out⟩
    · have d1 : decide (n < 0) = true := by simp; omega
      go_enter Try.func7, Try.ntmps7
      go_wp2_with fail
      refine (awake_any _).mono ?_
      rintro e w1 ⟨rfl, hb⟩
      have HB := Lib.hid hb
      clear hb
      go_wp2_with fail
      refine (make_yes H1.out H3.out _).mono ?_
      rintro e w' ⟨rfl, rfl⟩
      go_wp2
      go_ret
      exact ⟨rfl, HB.out⟩
  · have HM := Lib.hid hm
    clear hm
    go_enter Try.func7, Try.ntmps7
    go_wp2_with fail
    refine (awake_any _).mono ?_
    rintro e w1 ⟨rfl, hb⟩
    have HB := Lib.hid hb
    clear hb
    go_wp2_with fail
    refine (make_no HM.out _).mono ?_
    rintro e w' ⟨rfl, rfl⟩
    go_wp2
    go_ret
    exact ⟨rfl, HB.out⟩

theorem word_of {x : Int} (h : (Lit.int .u64 x).wf = true) : ∃ v : Nat, x = (v : Int) ∧ v ≤ top := by
  obtain ⟨h1, h2⟩ := bounds_u64 h
  obtain ⟨v, rfl⟩ := Int.eq_ofNat_of_zero_le h1
  exact ⟨v, rfl, by unfold top; omega⟩
theorem versions_walk (x0 x1 x2 : Int) (w : World) (w0 : (Lit.int .u64 x0).wf = true) : Calls Try.prog 7 #[.int .u64 x0, .int .i64 x1, .int .i64 x2] w fun e w' => e = .returned (.bool true) ∧ Below w.heap.size w w' := by
  obtain ⟨v, rfl, hv⟩ := word_of w0
  exact versions_in v x1 x2 hv w
end Go.Proofs.Ytjmenekhdkpaaaa
