/-
  The walk of the reference's Rest. Condition: the pairs lie in memory, at most a million.
-/
import Derived.Test.YtjmenekhdkpaaaaTp
namespace Go.Proofs.Ytjmenekhdkpaaaa
open Go.RowKit

theorem two_at' {n p : Nat} {a : Int} (hn : n < 64) (ha : a = (n : Int)) (hp : 2 ^ n = p) (w : World) : Calls Try.prog 26 #[.int .i64 a] w fun e w' => e = .returned (.int .u64 (p : Int)) ∧ w = w' := by
  subst ha
  exact two_at hn hp w
/-- j bits from f on are off -/
def off (t f j : Nat) : Nat := t &&& (top - (2 ^ j - 1) * 2 ^ f)
theorem off_le {t f j : Nat} (ht : t ≤ top) : off t f j ≤ top := Nat.le_trans Nat.and_le_left ht
theorem off_test {t f j q : Nat} (h : f + j ≤ 64) : (off t f j).testBit q = (t.testBit q && (decide (q < 64) && !decide (f ≤ q ∧ q < f + j))) := by
  have hb : (2 ^ j - 1) * 2 ^ f ≤ top := by
    cases j with
    | zero => simp
    | succ j =>
      exact Fd.bits_le (x := ⟨f, (j + 1 : Nat)⟩) (inw_iff.2 ⟨by simp, by simp; omega, by simp; omega, by simp; omega⟩)
  unfold off
  rw [Nat.testBit_and, top_test hb, bits_test]
theorem off_zero {t f : Nat} (ht : t ≤ top) (hf : f ≤ 64) : off t f 0 = t := by
  apply Nat.eq_of_testBit_eq
  intro q
  rw [off_test (by omega)]
  have h1 : decide (f ≤ q ∧ q < f + 0) = false := decide_eq_false (by omega)
  rw [h1]
  by_cases h : q < 64
  · simp [h]
  · rw [lt_test (n := 64) (by unfold top at ht; omega) (by omega)]; rfl
theorem off_no {t f j : Nat} (h : f + j < 64) (hb : (off t f j).testBit (f + j) = false) : off t f (j + 1) = off t f j := by
  apply Nat.eq_of_testBit_eq
  intro q
  by_cases e : q = f + j
  · subst e
    rw [hb, off_test (by omega)]
    have : decide (f ≤ f + j ∧ f + j < f + (j + 1)) = true := decide_eq_true (by omega)
    rw [this]; simp
  · rw [off_test (by omega), off_test (by omega)]
    have : decide (f ≤ q ∧ q < f + (j + 1)) = decide (f ≤ q ∧ q < f + j) := decide_eq_decide.2 (by omega)
    rw [this]
theorem off_yes {t f j : Nat} (ht : t ≤ top) (h : f + j < 64) (hb : (off t f j).testBit (f + j) = true) : off t f (j + 1) + 2 ^ (f + j) = off t f j := by
  have h2 : 2 ^ (f + j) ≤ top := by
    have := pow_lt h
    unfold top; omega
  rw [add_or (off_le ht) h2 ?_]
  · apply Nat.eq_of_testBit_eq
    intro q
    rw [Nat.testBit_or, Nat.testBit_two_pow]
    by_cases e : f + j = q
    · subst e
      rw [hb]; simp
    · rw [off_test (by omega), off_test (by omega)]
      have : decide (f ≤ q ∧ q < f + (j + 1)) = decide (f ≤ q ∧ q < f + j) := decide_eq_decide.2 (by omega)
      rw [this]; simp [e]
  · rw [disj_iff]
    intro q hq
    rw [Nat.testBit_two_pow]
    by_cases e : f + j = q
    · subst e
      rw [off_test (by omega)] at hq
      have : decide (f ≤ f + j ∧ f + j < f + (j + 1)) = true := decide_eq_true (by omega)
      rw [this] at hq
      simp at hq
    · simp [e]

def RestORel (W : World) (n z : Nat) (l : List Fd) (k : Nat) (p q : Value) (wr : World) : Prop :=
  ∃ i t : Nat, k + i = n ∧ p = .int .u64 (t : Int) ∧ q = .int .i64 i ∧ t ≤ top ∧ (good l = true → restFrom t (l.drop i) = restFrom z l) ∧ (good l = false → i = 0 ∧ t = z) ∧ Below W.heap.size W wr
def RestIRel (W : World) (m t f : Nat) (k : Nat) (p q : Value) (wr : World) : Prop :=
  ∃ j : Nat, k + j = m ∧ p = .int .u64 ((off t f j : Nat) : Int) ∧ q = .int .i64 j ∧ Below W.heap.size W wr

set_option maxHeartbeats 2000000 in
theorem restf_any (z : Nat) (A : Option Addr) (cap : Nat) (l : List Fd) (w : World) (hz : z ≤ top) (hl : l.length ≤ 1000000) (hL : FdsAt w w.heap.size A l) :
    Calls Try.prog 23 #[.int .u64 (z : Int), .slice A l.length cap] w fun e w' => e = .returned (.int .u64 (rest z l : Int)) ∧ Below w.heap.size w w' := by
  have LL := Lib.hid hL
  obtain ⟨n, hn⟩ : ∃ n, n = l.length := ⟨_, rfl⟩
  rw [← hn] at hl ⊢
  have HN := Lib.hid hn
  have HZ := Lib.hid hz
  clear hn hL hz
  obtain ⟨rr, hrr⟩ : ∃ rr, rest z l = rr := ⟨_, rfl⟩
  have HRR := Lib.hid hrr
  rw [hrr]
  clear hrr
  go_enter Try.func23, Try.ntmps23
  go_wp2_with fail
  go_loopg [0, 5] n (fun k p q wr => RestORel w n z l k p q wr)
  case atStart => exact ⟨0, z, by omega, rfl, rfl, HZ.out, fun _ => rfl, fun _ => ⟨rfl, rfl⟩, Below.refl _ _⟩
  case round =>
    obtain ⟨i, t, hk, rfl, rfl, ht, hr1, hr2, hb⟩ := hrel
    have HK := Lib.hid hk
    have HB := Lib.hid hb
    have HT := Lib.hid ht
    have HR1 := Lib.hid hr1
    have HR2 := Lib.hid hr2
    have LR := Lib.hid ((LL.out.below hb).mono hb.size)
    clear hk hb ht hr1 hr2
    by_cases hlt : i < n
    · have HLT := Lib.hid hlt
      have hlt2 : (i : Int) < (n : Int) := by omega
      cases hg : good l
      · have HG := Lib.hid hg
        clear hg
        go_wp2_with fail
        refine (fields_no HN.out hl LR.out HG.out).mono ?_
        rintro e w1 ⟨rfl, hb⟩
        have HB1 := Lib.hid (below_on HB.out hb)
        clear hb
        go_wp2_with fail
        go_ret
        refine ⟨?_, HB1.out⟩
        have := (HR2.out HG.out).2
        subst this
        rw [← HRR.out]
        unfold rest
        rw [if_neg (by rw [HG.out]; decide)]
        rfl
      · have HG := Lib.hid hg
        clear hg
        go_wp2_with fail
        refine (fields_yes HN.out hl LR.out HG.out).mono ?_
        rintro e w1 ⟨rfl, hb⟩
        have HB1 := Lib.hid (below_on HB.out hb)
        clear hb
        obtain ⟨b, o, rfl, hblk, hc⟩ := LL.out (by rw [← HN.out]; omega)
        obtain ⟨x, hx⟩ : ∃ x, l[i]? = some x := ⟨l[i]'(by rw [← HN.out]; exact hlt), List.getElem?_eq_getElem _⟩
        have HC := Lib.hid (hc i x hx)
        have HBL := Lib.hid hblk
        have HRF := Lib.hid (HR1.out HG.out)
        rw [drop_one hx] at HRF
        obtain ⟨f, m, hxe, h1, h2⟩ := inw_nat (good_inw HG.out hx)
        subst hxe
        clear hc hblk hx
        go_wp2_with fail
        go_loopg [0, 6] m (fun k p q wr => RestIRel w m t f k p q wr)
        case atStart => exact ⟨0, by omega, by rw [off_zero HT.out (by omega)], rfl, HB1.out⟩
        case round =>
          obtain ⟨j, hk, rfl, rfl, hb⟩ := hrel
          have HK2 := Lib.hid hk
          have HB2 := Lib.hid hb
          obtain ⟨c1, c2⟩ := HC.out
          rw [← hb.cell (p := ⟨b, _, none⟩) HBL.out] at c1 c2
          obtain ⟨u, hu⟩ : ∃ u, off t f j = u := ⟨_, rfl⟩
          have HU := Lib.hid hu
          have HUT : Hid (u ≤ top) := Lib.hid (by rw [← hu]; exact off_le HT.out)
          rw [hu]
          clear hk hb hu HB1
          by_cases hj : j < m
          · have HJ := Lib.hid hj
            have hj2 : (j : Int) < (m : Int) := by omega
            have hfj : f + j < 64 := by omega
            have HFJ := Lib.hid hfj
            cases htb : u.testBit (f + j)
            · have HTB := Lib.hid htb
              clear htb
              go_wp2_with fail
              refine (bit_at HUT.out HFJ.out (by simp) HTB.out _).mono ?_
              rintro e w' ⟨rfl, rfl⟩
              go_wp2_with fail
              go_roundg (m - (j + 1))
              case measure => have := HK2.out; have := HJ.out; omega
              case rel =>
                refine ⟨j + 1, by have := HJ.out; omega, ?_, by go_num, HB2.out⟩
                rw [off_no HFJ.out (by rw [HU.out]; exact HTB.out), HU.out]
            · have HTB := Lib.hid htb
              obtain ⟨pj, hpj⟩ : ∃ pj, 2 ^ (f + j) = pj := ⟨_, rfl⟩
              have HPJ := Lib.hid hpj
              clear htb hpj
              go_wp2_with fail
              refine (bit_at HUT.out HFJ.out (by simp) HTB.out _).mono ?_
              rintro e w' ⟨rfl, rfl⟩
              go_wp2_with fail
              refine (two_at' HFJ.out (by simp) HPJ.out _).mono ?_
              rintro e w' ⟨rfl, rfl⟩
              go_wp2_with fail
              go_roundg (m - (j + 1))
              case measure => have := HK2.out; have := HJ.out; omega
              case rel =>
                refine ⟨j + 1, by have := HJ.out; omega, ?_, by go_num, HB2.out⟩
                have e1 := off_yes HT.out HFJ.out (by rw [HU.out]; exact HTB.out)
                rw [HU.out, HPJ.out] at e1
                have hu := HUT.out
                unfold top at hu
                rw [IntKind.wrap_u64]
                congr 1
                omega
          · have hjm : j = m := by have := HK2.out; omega
            subst hjm
            go_wp2_with fail
            go_roundg (n - (i + 1))
            case measure => have := HK.out; have := HN.out; have := HLT.out; omega
            case rel =>
              refine ⟨i + 1, u, by have := HN.out; have := HLT.out; omega, rfl, by go_num, HUT.out, fun _ => ?_, (fun h => by rw [HG.out] at h; cases h), HB2.out⟩
              rw [← HRF.out, ← HU.out]
              rfl
    · go_wp2
      go_ret
      refine ⟨?_, HB.out⟩
      have hi : i = l.length := by have := HK.out; have := HN.out; omega
      have hrs : (t : Nat) = rest z l := by
        unfold rest
        cases hg : good l
        · exact (HR2.out hg).2
        · have := HR1.out hg
          rw [hi, List.drop_length] at this
          rw [if_pos rfl, ← this]
          rfl
      rw [← HRR.out, ← hrs]
      rfl
end Go.Proofs.Ytjmenekhdkpaaaa
