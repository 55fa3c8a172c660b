/-
  The walk of the law TagBack: it answers true. Condition: the fields lie in memory.
-/
import Derived.Test.YtjmenekhdkpaaaaTi
namespace Go.Proofs.Ytjmenekhdkpaaaa
open Go.RowKit

theorem gets_le {z : Nat} {l : List Fd} (hz : z ≤ top) : ∀ x ∈ gets z l, x ≤ top := by
  intro x hx
  obtain ⟨y, _, rfl⟩ := List.mem_map.1 hx
  have h1 : y.get z ≤ z / 2 ^ y.f.toNat := Nat.mod_le _ _
  have h2 : z / 2 ^ y.f.toNat ≤ z := Nat.div_le_self _ _
  omega
theorem words_len {w : World} {v : Value} {l : List Nat} (h : Words w v l) : ∃ A cap, v = .slice A l.length cap ∧ WordsAt w w.heap.size A l := h

/-- what the law asks, in plain data -/
theorem back_plain {l : List Fd} {z : Nat} (hg : good l = true) (hz : z ≤ top) :
    put l (gets z l) = some (z &&& mask l) ∧ rest z l = z &&& (top - mask l) ∧ (z &&& mask l) ||| (z &&& (top - mask l)) = z ∧ (z &&& mask l) &&& (z &&& (top - mask l)) = 0 ∧
      gets (z &&& mask l) l = gets z l ∧ rest (z &&& mask l) l = 0 := by
  have hs := (good_iff l).1 hg
  have hm := hs.mask_le
  refine ⟨?_, ?_, and_or_not hz hm, and_not_and hm z, gets_mask z l, ?_⟩
  · unfold put
    rw [if_pos ⟨hg, by unfold gets; simp⟩, putFrom_fits _ _ _ (fits_gets z l), putL_gets, Nat.zero_or]
  · unfold rest
    rw [if_pos hg, restFrom_eq l z hs hz]
  · unfold rest
    rw [if_pos hg, restFrom_eq l _ hs (Nat.le_trans Nat.and_le_left hz)]
    have := and_not_and (w := top) hm z
    rw [disj_iff] at this ⊢
    intro j hj
    have := this j hj
    rw [Nat.testBit_and] at this
    cases e : (top - mask l).testBit j
    · rfl
    · exfalso
      rw [e, Bool.and_true] at this
      rw [top_test hm] at e
      have hj2 : j < 64 := by
        rw [Bool.and_eq_true] at e; simpa using e.1
      rw [show top = 2 ^ 64 - 1 by decide, Nat.testBit_two_pow_sub_one] at this
      simp at this
      omega

set_option maxHeartbeats 1000000 in
theorem back_in (A : Option Addr) (cap : Nat) (l : List Fd) (z : Nat) (w : World) (hz : z ≤ top) (hL : FdsAt w w.heap.size A l) :
    Calls Try.prog 5 #[.slice A l.length cap, .int .u64 (z : Int)] w fun e w' => e = .returned (.bool true) ∧ Below w.heap.size w w' := by
  have LL := Lib.hid hL
  obtain ⟨n, hn⟩ : ∃ n, n = l.length := ⟨_, rfl⟩
  rw [← hn]
  have HN := Lib.hid hn
  have HZ := Lib.hid hz
  clear hn hL hz
  by_cases h70 : n ≤ 70
  · have d1 : decide ((70 : Int) < (n : Int)) = false := by simp; omega
    have hl : n ≤ 1000000 := by omega
    have HL := Lib.hid hl
    clear hl
    cases hg : good l
    · have HG := Lib.hid hg
      clear hg
      go_enter Try.func5, Try.ntmps5
      go_wp2_with fail
      refine (awake_any _).mono ?_
      rintro e w1 ⟨rfl, hb⟩
      have HB := Lib.hid hb
      have L1 := Lib.hid (LL.out.grow hb)
      clear hb
      go_wp2_with fail
      refine (good_no HN.out HL.out L1.out HG.out).mono ?_
      rintro e w2 ⟨rfl, hb⟩
      have HB2 := Lib.hid (below_on HB.out hb)
      clear hb
      go_wp2
      go_ret
      exact ⟨rfl, HB2.out⟩
    · have HG := Lib.hid hg
      obtain ⟨p1, p2, p3, p4, p5, p6⟩ := back_plain hg HZ.out
      obtain ⟨a, ha⟩ : ∃ a, a = z &&& mask l := ⟨_, rfl⟩
      obtain ⟨r, hr⟩ : ∃ r, r = z &&& (top - mask l) := ⟨_, rfl⟩
      have hat : a ≤ top := by rw [ha]; exact Nat.le_trans Nat.and_le_left HZ.out
      have hrt : r ≤ top := by rw [hr]; exact Nat.le_trans Nat.and_le_left HZ.out
      rw [← hr] at p2
      rw [← ha] at p1 p5 p6
      rw [← ha, ← hr] at p3 p4
      have P1 := Lib.hid p1
      have P2 := Lib.hid p2
      have P5 : Hid (gotten a l = gets z l) := Lib.hid (by unfold gotten; rw [if_pos hg, p5])
      have P6 := Lib.hid p6
      have HA := Lib.hid hat
      have G1 : Hid (gotten z l = gets z l) := Lib.hid (by unfold gotten; rw [if_pos hg])
      have HGT := Lib.hid (gets_le (l := l) HZ.out)
      have HGL : Hid (n = (gets z l).length) := Lib.hid (by unfold gets; simp [HN.out])
      have o1 : (bits .or .u64 (a : Int) (r : Int) == (z : Int)) = true := by
        rw [bits_or_u64_nat _ _ (by unfold top at hat; omega) (by unfold top at hrt; omega), p3]; simp
      have o2 : (bits .and .u64 (a : Int) (r : Int) == 0) = true := by
        rw [bits_and_u64_nat _ _ (by unfold top at hat; omega) (by unfold top at hrt; omega), p4]; rfl
      clear hg p1 p2 p3 p4 p5 p6 ha hr hat hrt
      go_enter Try.func5, Try.ntmps5
      go_wp2_with fail
      refine (awake_any _).mono ?_
      rintro e w1 ⟨rfl, hb⟩
      have HB := Lib.hid hb
      have L1 := Lib.hid (LL.out.grow hb)
      clear hb
      go_wp2_with fail
      refine (good_yes HN.out HL.out L1.out HG.out).mono ?_
      rintro e w2 ⟨rfl, hb⟩
      have HB2 := Lib.hid (below_on HB.out hb)
      have L2 := Lib.hid (L1.out.grow hb)
      clear hb
      go_wp2_with fail
      refine (get_at HZ.out HN.out HL.out L2.out G1.out).mono ?_
      rintro e w3 ⟨v, rfl, hv, hb⟩
      obtain ⟨A3, cap3, rfl, hv3⟩ := words_len hv
      rw [← HGL.out]
      have HB3 := Lib.hid (below_on HB2.out hb)
      have L3 := Lib.hid (L2.out.grow hb)
      have V3 := Lib.hid hv3
      clear hb hv hv3
      go_wp2_with fail
      refine (put_at HN.out HGL.out HL.out HL.out L3.out V3.out HGT.out P1.out).mono ?_
      rintro e w4 ⟨rfl, hb⟩
      have HB4 := Lib.hid (below_on HB3.out hb)
      have L4 := Lib.hid (L3.out.grow hb)
      have V4 := Lib.hid (V3.out.grow hb)
      clear hb
      go_wp2_with fail
      refine (rest_at HZ.out HN.out HL.out L4.out P2.out).mono ?_
      rintro e w5 ⟨rfl, hb⟩
      have HB5 := Lib.hid (below_on HB4.out hb)
      have L5 := Lib.hid (L4.out.grow hb)
      have V5 := Lib.hid (V4.out.grow hb)
      clear hb
      go_wp2_with fail
      refine (get_at HA.out HN.out HL.out L5.out P5.out).mono ?_
      rintro e w6 ⟨v, rfl, hv, hb⟩
      have HB6 := Lib.hid (below_on HB5.out hb)
      have L6 := Lib.hid (L5.out.grow hb)
      have V6 := Lib.hid (V5.out.grow hb)
      have U6 := Lib.hid hv
      clear hb hv
      go_wp2_with fail
      refine (words_same _ _ (gets z l) _ U6.out ⟨_, _, by rw [HGL.out], V6.out⟩ (by rw [← HGL.out]; exact HL.out)).mono ?_
      rintro e w7 ⟨rfl, hb⟩
      have HB7 := Lib.hid (below_on HB6.out hb)
      have L7 := Lib.hid (L6.out.grow hb)
      clear hb
      go_wp2_with fail
      refine (rest_at HA.out HN.out HL.out L7.out P6.out).mono ?_
      rintro e w8 ⟨rfl, hb⟩
      have HB8 := Lib.hid (below_on HB7.out hb)
      clear hb
      go_wp2
      go_ret
      exact ⟨rfl, HB8.out⟩
  · have d1 : decide ((70 : Int) < (n : Int)) = true := by simp; omega
    go_enter Try.func5, Try.ntmps5
    go_wp2_with fail
    refine (awake_any _).mono ?_
    rintro e w1 ⟨rfl, hb⟩
    have HB := Lib.hid hb
    clear hb
    go_wp2
    go_ret
    exact ⟨rfl, HB.out⟩

theorem back_walk (A : Option Addr) (cap : Nat) (l : List Fd) (x : Int) (w : World) (_hl : l.length ≤ maxLen) (hL : FdsAt w w.heap.size A l) (w1 : (Lit.int .u64 x).wf = true) :
    Calls Try.prog 5 #[.slice A l.length cap, .int .u64 x] w fun e w' => e = .returned (.bool true) ∧ Below w.heap.size w w' := by
  obtain ⟨z, rfl, hz⟩ := word_of w1
  exact back_in A cap l z w hz hL
end Go.Proofs.Ytjmenekhdkpaaaa
