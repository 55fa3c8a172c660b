/-
  The walk of the law PathBack. Conditions: the steps lie in memory; the library's own number is there.
-/
import Derived.Test.YtcobcdkpfmifeaaDoorHi
namespace Go.Proofs.YtcobcdkpfmifeaaDoor
open Go.RowKit

theorem get_is {z n : Nat} {l : List Int} (hz : z < 18446744073709551616) (hl : pget z = some l) (hn : n = l.length) (w : World) : Calls Tryd.prog 9 #[.int .u64 (z : Int)] w fun e w' => ∃ A cap, e = .returned (.tuple #[.agg #[.slice A n cap], .bool true]) ∧ IntsAt w' w'.heap.size A l ∧ Below w.heap.size w w' := by
  have h := get_any z hz w
  rw [hl, Option.getD_some, ← hn] at h
  exact h
theorem get_not {z : Nat} (hz : z < 18446744073709551616) (hl : pget z = none) (w : World) : Calls Tryd.prog 9 #[.int .u64 (z : Int)] w fun e w' => ∃ A cap, e = .returned (.tuple #[.agg #[.slice A 0 cap], .bool false]) ∧ Below w.heap.size w w' := by
  have h := get_any z hz w
  rw [hl] at h
  refine h.mono ?_
  rintro e w' ⟨A, cap, rfl, _, hb⟩
  exact ⟨A, cap, rfl, hb⟩
theorem parse_is {s : ByteArray} {n : Nat} {l : List Int} (hs : s.size < 4294967281) (hl : pparse s.data.toList = some l) (hn : n = l.length) {w : World} (hG : Glo w) : Calls Tryd.prog 8 #[.string s] w fun e w' => ∃ A cap, e = .returned (.tuple #[.agg #[.slice A n cap], .bool true]) ∧ IntsAt w' w'.heap.size A l ∧ Below w.heap.size w w' := by
  have h := parse_any s hs w hG
  rw [hl, Option.getD_some, ← hn] at h
  exact h
theorem parse_not {s : ByteArray} (hs : s.size < 4294967281) (hl : pparse s.data.toList = none) {w : World} (hG : Glo w) : Calls Tryd.prog 8 #[.string s] w fun e w' => ∃ A cap, e = .returned (.tuple #[.agg #[.slice A 0 cap], .bool false]) ∧ Below w.heap.size w w' := by
  have h := parse_any s hs w hG
  rw [hl] at h
  refine h.mono ?_
  rintro e w' ⟨A, cap, rfl, _, hb⟩
  exact ⟨A, cap, rfl, hb⟩
theorem ints_is {A B : Option Addr} {a b c d : Nat} {l m : List Int} {x : Bool} {w : World} (ha : a = l.length) (hb : b = m.length) (hl : a ≤ 1000000) (hL : IntsAt w w.heap.size A l) (hM : IntsAt w w.heap.size B m) (hx : (l == m) = x) :
    Calls Tryd.prog 11 #[.slice A a c, .slice B b d] w fun e w' => e = .returned (.bool x) ∧ Below w.heap.size w w' := by
  subst ha
  subst hb
  exact hx ▸ ints_any hl hL hM
theorem same_ints (l : List Int) : (l == l) = true := by simp

theorem back_walk (A : Option Addr) (c : Nat) (l : List Int) (w : World) (hL : IntsAt w w.heap.size A l) (hG : Glo w) :
    Calls Tryd.prog 5 #[.slice A l.length c] w fun e w' => e = .returned (.bool true) ∧ Below w.heap.size w w' := by
  obtain ⟨n, hn⟩ : ∃ n, n = l.length := ⟨_, rfl⟩
  rw [← hn]
  have HN := Lib.hid hn
  have HL := Lib.hid hL
  have HG := Lib.hid hG
  clear hn hL hG
  go_enter Tryd.func5, Tryd.ntmps5
  go_wp2_with fail
  refine (awake_any w).mono ?_
  rintro e w1 ⟨rfl, hb1⟩
  have HB1 := Lib.hid hb1
  have hK := Bx.new w1 (.slice A n c) 26
  have hO := below_on hb1 (below_alloc w1 (.cells #[.slice A n c] 26))
  clear hb1
  by_cases h50 : 50 < n
  · have h50' : (50 : Int) < (n : Int) := by omega
    clear hK
    go_wp2
    go_ret
    exact ⟨rfl, hO⟩
  have h50' : ¬ (50 : Int) < (n : Int) := by omega
  have h50d : decide ((50 : Int) < (n : Int)) = false := decide_eq_false h50'
  have H50 := Lib.hid h50
  clear h50
  go_wp2_with fail
  obtain ⟨P, hP⟩ : ∃ P, P = w1.heap.size := ⟨_, rfl⟩
  rw [← hP] at hK ⊢
  generalize w1.alloc (.cells #[.slice A n c] 26) = w2 at hK hO ⊢
  have HO := Lib.hid hO
  have HK := Lib.hid hK
  clear hO hK hP
  rcases hg : pgood l with _ | _
  · refine (good_is (w := w2) HN.out (HL.out.on HO.out) hg).mono ?_
    rintro e w3 ⟨rfl, hb⟩
    have HB := Lib.hid (below_on HO.out hb)
    clear hb hg
    go_wp2
    go_ret
    exact ⟨rfl, HB.out⟩
  have HP := Lib.hid hg
  refine (good_is (w := w2) HN.out (HL.out.on HO.out) hg).mono ?_
  rintro e w3 ⟨rfl, hb⟩
  have HO3 := Lib.hid (below_on HO.out hb)
  have HK3 := Lib.hid (HK.out.on hb)
  clear hb hg HO HK
  have c1 := HK3.out.c
  go_wp2_with fail
  obtain ⟨z, hz⟩ : ∃ z, z = pword l := ⟨_, rfl⟩
  have HZ := Lib.hid hz
  refine (word_is (w := w3) HN.out (HL.out.on HO3.out) HP.out hz.symm).mono ?_
  rintro e w4 ⟨rfl, hb⟩
  have HO4 := Lib.hid (below_on HO3.out hb)
  have HK4 := Lib.hid (HK3.out.on hb)
  clear hb HO3 HK3 c1 hz
  go_wp2_with fail
  refine (get_is (z := z) (l := l) (by have := pword_lt HP.out; rw [HZ.out]; omega) (by rw [HZ.out]; exact pget_pword HP.out) HN.out w4).mono ?_
  rintro e w5 ⟨B, cb, rfl, hi, hb⟩
  have HO5 := Lib.hid (below_on HO4.out hb)
  have HK5 := Lib.hid (HK4.out.on hb)
  have hQ := Bx.new w5 (.slice B n cb) 26
  have hk := HK5.out.on (below_alloc w5 (.cells #[.slice B n cb] 26))
  have ho := below_on HO5.out (below_alloc w5 (.cells #[.slice B n cb] 26))
  have hj := hi.on (below_alloc w5 (.cells #[.slice B n cb] 26))
  have c1 := hk.c
  clear hb HO4 HK4 hi
  go_wp2_with fail
  clear c1
  obtain ⟨Q, hQ2⟩ : ∃ Q, Q = w5.heap.size := ⟨_, rfl⟩
  rw [← hQ2] at hQ ⊢
  clear hQ2
  generalize w5.alloc (.cells #[.slice B n cb] 26) = w6 at hQ hk ho hj ⊢
  obtain ⟨s, hs⟩ : ∃ s : ByteArray, s = ⟨(ptext l).toArray⟩ := ⟨_, rfl⟩
  have HS := Lib.hid hs
  refine (text_is (w := w6) HN.out (HL.out.on ho) hs.symm).mono ?_
  rintro e w7 ⟨rfl, hb⟩
  have HO7 := Lib.hid (below_on ho hb)
  have HK7 := Lib.hid (hk.on hb)
  have HQ7 := Lib.hid (hQ.on hb)
  have HJ7 := Lib.hid (hj.on hb)
  clear hb hQ hk ho hj hs HO5 HK5
  go_wp2_with fail
  refine (parse_is (s := s) (l := l) (n := n) (by rw [HS.out]; have := ptext_length HP.out; show (ptext l).toArray.size < _; rw [List.size_toArray]; omega) (by rw [HS.out]; exact pparse_ptext HP.out) HN.out (HG.out.on HO7.out)).mono ?_
  rintro e w8 ⟨D, cd, rfl, hi, hb⟩
  have HO8 := Lib.hid (below_on HO7.out hb)
  have hq8 := HQ7.out.on hb
  have hj8 := HJ7.out.on hb
  have hR := Bx.new w8 (.slice D n cd) 26
  have hq := hq8.on (below_alloc w8 (.cells #[.slice D n cd] 26))
  have ho := below_on HO8.out (below_alloc w8 (.cells #[.slice D n cd] 26))
  have hj := hj8.on (below_alloc w8 (.cells #[.slice D n cd] 26))
  have hi9 := hi.on (below_alloc w8 (.cells #[.slice D n cd] 26))
  have c1 := hq.c
  have c2 := hR.c
  clear hb HO7 HK7 HQ7 HJ7 hi hq8 hj8
  go_wp2_with fail
  clear c1 c2
  obtain ⟨R, hR2⟩ : ∃ R, R = w8.heap.size := ⟨_, rfl⟩
  rw [← hR2] at hR ⊢
  clear hR2
  generalize w8.alloc (.cells #[.slice D n cd] 26) = w9 at hq hR ho hj hi9 ⊢
  have h6 : n ≤ 1000000 := by have := H50.out; omega
  have H6 := Lib.hid h6
  clear h6
  refine (ints_is (w := w9) HN.out HN.out H6.out hj (HL.out.on ho) (same_ints l)).mono ?_
  rintro e w10 ⟨rfl, hb⟩
  have HO10 := Lib.hid (below_on ho hb)
  have hr10 := hR.on hb
  have HI10 := Lib.hid (hi9.on hb)
  have c2 := hr10.c
  clear hb hq hR ho hj hi9 hr10
  go_wp2_with fail
  refine (ints_is (w := w10) HN.out HN.out H6.out HI10.out (HL.out.on HO10.out) (same_ints l)).mono ?_
  rintro e w11 ⟨rfl, hb⟩
  have HO11 := Lib.hid (below_on HO10.out hb)
  clear hb c2
  go_wp2
  go_ret
  exact ⟨rfl, HO11.out⟩
end Go.Proofs.YtcobcdkpfmifeaaDoor
