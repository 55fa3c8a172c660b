/-
  The walk of the law PathSays. Conditions: the steps of both lists lie in memory, the first in the room of its length; the third is a word; the library's own number is there.
-/
import Derived.Test.YtcobcdkpfmifeaaDoorHk
import Derived.Test.YtcobcdkpfmifeaaDoorHo
namespace Go.Proofs.YtcobcdkpfmifeaaDoor
open Go.RowKit

/-- what Word answers -/
def pwordOr (l : List Int) : Nat := if pgood l = true then pword l else 0
theorem word_at {A : Option Addr} {n cap p : Nat} {g : Bool} {l : List Int} {w : World} (hn : n = l.length) (hL : IntsAt w w.heap.size A l) (hg : pgood l = g) (hp : pwordOr l = p) :
    Calls Tryd.prog 10 #[.agg #[.slice A n cap]] w fun e w' => e = .returned (.tuple #[.int .u64 (p : Int), .bool g]) ∧ Below w.heap.size w w' := by
  subst hp
  cases g
  · rw [pwordOr, hg]
    exact word_no hn hL hg
  · rw [pwordOr, if_pos hg]
    exact word_yes hn hL hg
theorem rword_at {A : Option Addr} {n cap p : Nat} {g : Bool} {l : List Int} {w : World} (hn : n = l.length) (h6 : n ≤ 1000000) (hL : IntsAt w w.heap.size A l) (hg : pgood l = g) (hp : pwordOr l = p) :
    Calls Tryd.prog 14 #[.slice A n cap] w fun e w' => e = .returned (.tuple #[.int .u64 (p : Int), .bool g]) ∧ Below w.heap.size w w' := by
  subst hp
  cases g
  · rw [pwordOr, hg]
    exact rword_no hn h6 hL hg
  · rw [pwordOr, if_pos hg]
    exact rword_yes hn hL hg
theorem get_at {z q : Nat} {L : List Int} {g : Bool} (hz : z < 18446744073709551616) (hL : (pget z).getD [] = L) (hg : (pget z).isSome = g) (hq : q = L.length) (w : World) : Calls Tryd.prog 9 #[.int .u64 (z : Int)] w fun e w' => ∃ A cap, e = .returned (.tuple #[.agg #[.slice A q cap], .bool g]) ∧ IntsAt w' w'.heap.size A L ∧ Below w.heap.size w w' := by
  have h := get_any z hz w
  rw [hL, hg, ← hq] at h
  exact h
theorem rget_at {z q : Nat} {L : List Int} {g : Bool} (hz : z < 18446744073709551616) (hL : (pget z).getD [] = L) (hg : (pget z).isSome = g) (hq : q = L.length) (w : World) : Calls Tryd.prog 15 #[.int .u64 (z : Int)] w fun e w' => ∃ A cap, e = .returned (.tuple #[.slice A q cap, .bool g]) ∧ IntsAt w' w'.heap.size A L ∧ Below w.heap.size w w' := by
  have h := rget_any z hz w
  rw [hL, hg, ← hq] at h
  exact h
theorem parse_at {s : ByteArray} {q : Nat} {L : List Int} {g : Bool} (hs : s.size ≤ 1000) (hL : (pparse s.data.toList).getD [] = L) (hg : (pparse s.data.toList).isSome = g) (hq : q = L.length) {w : World} (hG : Glo w) : Calls Tryd.prog 8 #[.string s] w fun e w' => ∃ A cap, e = .returned (.tuple #[.agg #[.slice A q cap], .bool g]) ∧ IntsAt w' w'.heap.size A L ∧ Below w.heap.size w w' := by
  have h := parse_any s (by omega) w hG
  rw [hL, hg, ← hq] at h
  exact h
theorem rparse_at {s : ByteArray} {q : Nat} {L : List Int} {g : Bool} (hs : s.size ≤ 1000) (hL : (pparse s.data.toList).getD [] = L) (hg : (pparse s.data.toList).isSome = g) (hq : q = L.length) (w : World) : Calls Tryd.prog 16 #[.string s] w fun e w' => ∃ A cap, e = .returned (.tuple #[.slice A q cap, .bool g]) ∧ IntsAt w' w'.heap.size A L ∧ Below w.heap.size w w' := by
  have h := rparse_any s hs w
  rw [hL, hg, ← hq] at h
  exact h
theorem pget_few (z : Nat) : ((pget z).getD []).length ≤ 1000000 := by
  cases h : pget z with
  | none => simp
  | some l => have := (pgood_len (pget_some h).2.1).2; simp; omega
theorem pparse_few (s : List UInt8) : ((pparse s).getD []).length ≤ 1000000 := by
  cases h : pparse s with
  | none => simp
  | some l => have := (pgood_len (pparse_some h).1).2; simp; omega

def SaysRel (W : World) (n k : Nat) (l m : List Int) (f : Nat) (p q : Value) (wr : World) : Prop :=
  ∃ (i : Nat) (b : Bool), f + i = k ∧ p = .bool b ∧ q = .int .i64 i ∧ (b = true → k ≤ n ∧ l.take i = m.take i) ∧ (b = false → pbegins l m = false) ∧ Below W.heap.size W wr

set_option maxHeartbeats 4000000 in
theorem says_walk (A B : Option Addr) (c d : Nat) (l m : List Int) (z : Nat) (s : ByteArray) (w : World) (hc : l.length ≤ c) (hL : IntsAt w w.heap.size A l) (hM : IntsAt w w.heap.size B m) (hz : z < 18446744073709551616) (hG : Glo w) :
    Calls Tryd.prog 4 #[.slice A l.length c, .slice B m.length d, .int .u64 (z : Int), .string s] w fun e w' => e = .returned (.bool true) ∧ Below w.heap.size w w' := by
  obtain ⟨n, hn⟩ : ∃ n, n = l.length := ⟨_, rfl⟩
  obtain ⟨k, hk⟩ : ∃ k, k = m.length := ⟨_, rfl⟩
  rw [← hn, ← hk]
  rw [← hn] at hc
  have HN := Lib.hid hn
  have HK := Lib.hid hk
  have HL := Lib.hid hL
  have HM := Lib.hid hM
  have HCAP := Lib.hid hc
  have HZ := Lib.hid hz
  have HGL := Lib.hid hG
  clear hn hk hL hM hc hz hG
  go_enter Tryd.func4, Tryd.ntmps4
  go_wp2_with fail
  refine (awake_any w).mono ?_
  rintro e w1 ⟨rfl, hb1⟩
  have HB1 := Lib.hid hb1
  clear hb1
  by_cases h50 : 50 < n
  · have h1 : decide ((50 : Int) < (n : Int)) = true := decide_eq_true (by omega)
    have h2 : (50 : Int) < (n : Int) := by omega
    go_wp2
    go_ret
    exact ⟨rfl, HB1.out⟩
  have h1 : decide ((50 : Int) < (n : Int)) = false := decide_eq_false (by omega)
  have h1' : ¬ (50 : Int) < (n : Int) := by omega
  by_cases k50 : 50 < k
  · have h3 : decide ((50 : Int) < (k : Int)) = true := decide_eq_true (by omega)
    have h2 : (50 : Int) < (k : Int) := by omega
    go_wp2
    go_ret
    exact ⟨rfl, HB1.out⟩
  have h3 : decide ((50 : Int) < (k : Int)) = false := decide_eq_false (by omega)
  have h3' : ¬ (50 : Int) < (k : Int) := by omega
  by_cases s100 : 100 < s.size
  · have h4 : decide ((100 : Int) < (s.size : Int)) = true := decide_eq_true (by omega)
    have h2 : (100 : Int) < (s.size : Int) := by omega
    go_wp2
    go_ret
    exact ⟨rfl, HB1.out⟩
  have h4 : decide ((100 : Int) < (s.size : Int)) = false := decide_eq_false (by omega)
  have h4' : ¬ (100 : Int) < (s.size : Int) := by omega
  have H50 : Hid (n ≤ 1000000 ∧ k ≤ 1000000 ∧ s.size ≤ 1000) := Lib.hid ⟨by omega, by omega, by omega⟩
  have HK50 : Hid (k ≤ 50) := Lib.hid (by omega)
  have hP := Bx.new w1 (.slice A n c) 26
  have hO := below_on HB1.out (below_alloc w1 (.cells #[.slice A n c] 26))
  obtain ⟨g, hg⟩ : ∃ g, pgood l = g := ⟨_, rfl⟩
  obtain ⟨pw, hpw⟩ : ∃ p, pwordOr l = p := ⟨_, rfl⟩
  obtain ⟨t, ht⟩ : ∃ t : ByteArray, (⟨(ptext l).toArray⟩ : ByteArray) = t := ⟨_, rfl⟩
  obtain ⟨L, hLz⟩ : ∃ L, (pget z).getD [] = L := ⟨_, rfl⟩
  obtain ⟨gz, hgz⟩ : ∃ g, (pget z).isSome = g := ⟨_, rfl⟩
  obtain ⟨M, hMs⟩ : ∃ L, (pparse s.data.toList).getD [] = L := ⟨_, rfl⟩
  obtain ⟨gs, hgs⟩ : ∃ g, (pparse s.data.toList).isSome = g := ⟨_, rfl⟩
  obtain ⟨q, hq⟩ : ∃ q, q = L.length := ⟨_, rfl⟩
  obtain ⟨u, hu⟩ : ∃ u, u = M.length := ⟨_, rfl⟩
  obtain ⟨x, hx⟩ : ∃ x, pbegins l m = x := ⟨_, rfl⟩
  have H6 : Hid (q ≤ 1000000 ∧ u ≤ 1000000) := Lib.hid ⟨by rw [hq, ← hLz]; exact pget_few z, by rw [hu, ← hMs]; exact pparse_few _⟩
  have HG := Lib.hid hg
  have HW := Lib.hid hpw
  have HT := Lib.hid ht
  have HLZ := Lib.hid hLz
  have HGZ := Lib.hid hgz
  have HMS := Lib.hid hMs
  have HGS := Lib.hid hgs
  have HQ := Lib.hid hq
  have HU := Lib.hid hu
  have HX := Lib.hid hx
  clear h50 k50 s100 hg hpw ht hLz hgz hMs hgs hq hu hx
  go_wp2_with fail
  clear h1 h1' h3 h3' h4 h4'
  obtain ⟨P, hP2⟩ : ∃ P, P = w1.heap.size := ⟨_, rfl⟩
  rw [← hP2] at hP ⊢
  clear hP2
  generalize w1.alloc (.cells #[.slice A n c] 26) = w2 at hP hO ⊢
  refine (word_at (w := w2) HN.out (HL.out.on hO) HG.out HW.out).mono ?_
  rintro e w3 ⟨rfl, hb⟩
  have HP := Lib.hid (hP.on hb)
  have HO := Lib.hid (below_on hO hb)
  clear hP hO hb
  go_wp2_with fail
  refine (rword_at (w := w3) HN.out H50.out.1 (HL.out.on HO.out) HG.out HW.out).mono ?_
  rintro e w4 ⟨rfl, hb⟩
  have HP2 := Lib.hid (HP.out.on hb)
  have HO2 := Lib.hid (below_on HO.out hb)
  clear HP HO hb
  go_wp2_with fail
  refine (get_at HZ.out HLZ.out HGZ.out HQ.out w4).mono ?_
  rintro e w5 ⟨C, cc, rfl, hi, hb⟩
  have hP := (HP2.out.on hb).on (below_alloc w5 (.cells #[.slice C q cc] 26))
  have hO := below_on HO2.out (below_on hb (below_alloc w5 (.cells #[.slice C q cc] 26)))
  have hQ := Bx.new w5 (.slice C q cc) 26
  have hI := hi.on (below_alloc w5 (.cells #[.slice C q cc] 26))
  clear HP2 HO2 hi hb
  go_wp2_with fail
  obtain ⟨Q, hQ2⟩ : ∃ P, P = w5.heap.size := ⟨_, rfl⟩
  rw [← hQ2] at hQ ⊢
  clear hQ2
  generalize w5.alloc (.cells #[.slice C q cc] 26) = w6 at hP hO hQ hI ⊢
  refine (rget_at HZ.out HLZ.out HGZ.out HQ.out w6).mono ?_
  rintro e w7 ⟨D, cd, rfl, hi, hb⟩
  have HP3 := Lib.hid (hP.on hb)
  have HO3 := Lib.hid (below_on hO hb)
  have HQ3 := Lib.hid (hQ.on hb)
  have HC3 := Lib.hid (hI.on hb)
  have HD3 := Lib.hid hi
  clear hP hO hQ hI hi hb
  go_wp2_with fail
  refine (parse_at H50.out.2.2 HMS.out HGS.out HU.out (HGL.out.on HO3.out)).mono ?_
  rintro e w8 ⟨E, ce, rfl, hi, hb⟩
  have ha := below_on hb (below_alloc w8 (.cells #[.slice E u ce] 26))
  have hP := HP3.out.on ha
  have hO := below_on HO3.out ha
  have hQ := HQ3.out.on ha
  have hC := HC3.out.on ha
  have hD := HD3.out.on ha
  have hR := Bx.new w8 (.slice E u ce) 26
  have hE := hi.on (below_alloc w8 (.cells #[.slice E u ce] 26))
  clear HP3 HO3 HQ3 HC3 HD3 hi hb ha
  go_wp2_with fail
  obtain ⟨R, hR2⟩ : ∃ P, P = w8.heap.size := ⟨_, rfl⟩
  rw [← hR2] at hR ⊢
  clear hR2
  generalize w8.alloc (.cells #[.slice E u ce] 26) = w9 at hP hO hQ hC hD hR hE ⊢
  refine (rparse_at H50.out.2.2 HMS.out HGS.out HU.out w9).mono ?_
  rintro e w10 ⟨F, cf, rfl, hi, hb⟩
  have HP4 := Lib.hid (hP.on hb)
  have HO4 := Lib.hid (below_on hO hb)
  have HQ4 := Lib.hid (hQ.on hb)
  have HC4 := Lib.hid (hC.on hb)
  have HD4 := Lib.hid (hD.on hb)
  have HR4 := Lib.hid (hR.on hb)
  have HE4 := Lib.hid (hE.on hb)
  have HF4 := Lib.hid hi
  clear hP hO hQ hC hD hR hE hi hb
  obtain ⟨b0, hb0⟩ : ∃ b, b = decide (k ≤ n) := ⟨_, rfl⟩
  have hbi : decide ((k : Int) ≤ (n : Int)) = b0 := by rw [hb0]; simp
  have hbn : decide (k ≤ n) = b0 := hb0.symm
  have HB0 := Lib.hid hb0
  clear hb0
  go_wp2_with fail
  clear hbi hbn
  go_loopg [22, 23] k (fun f p q wr => SaysRel w10 n k l m f p q wr)
  case atStart =>
    refine ⟨0, b0, by omega, rfl, rfl, fun h => ⟨by rw [HB0.out] at h; exact of_decide_eq_true h, rfl⟩, fun h => ?_, below_self _⟩
    rw [HB0.out] at h
    rw [pbegins, ← HK.out, ← HN.out, h, Bool.false_and]
  case round =>
    obtain ⟨i, b, hk, rfl, rfl, hyes, hno, hb⟩ := hrel
    have HI := Lib.hid hk
    have HB := Lib.hid hb
    have HYES := Lib.hid hyes
    have HNO := Lib.hid hno
    clear hk hb hyes hno
    by_cases hlt : i < k
    · have HLT := Lib.hid hlt
      have hlt2 : (i : Int) < (k : Int) := by omega
      rcases b with _ | _
      · have hx := HNO.out rfl
        rw [HX.out] at hx
        subst hx
        have HO5 := Lib.hid (below_on HO4.out HB.out)
        have HP5 := Lib.hid (HP4.out.on HB.out)
        have hq5 := HQ4.out.on HB.out
        have HR5 := Lib.hid (HR4.out.on HB.out)
        have HC5 := Lib.hid (HC4.out.on HB.out)
        have HD5 := Lib.hid (HD4.out.on HB.out)
        have HE5 := Lib.hid (HE4.out.on HB.out)
        have HF5 := Lib.hid (HF4.out.on HB.out)
        have q5 := hq5.c
        clear hq5 HNO HYES hlt
        go_wp2_with fail
        refine (ints_is (w := wr) HQ.out HQ.out H6.out.1 HC5.out HD5.out (same_ints L)).mono ?_
        rintro e v1 ⟨rfl, hb⟩
        have B1 := Lib.hid hb
        have r1 := (HR5.out.on hb).c
        clear hb
        go_wp2_with fail
        clear r1
        refine (ints_is (w := v1) HU.out HU.out H6.out.2 (HE5.out.on B1.out) (HF5.out.on B1.out) (same_ints M)).mono ?_
        rintro e v2 ⟨rfl, hb⟩
        have B2 := Lib.hid (below_on B1.out hb)
        clear hb B1
        have p2 := (HP5.out.on B2.out).c
        go_wp2_with fail
        clear p2
        refine (good_is (w := v2) HN.out (HL.out.on (below_on HO5.out B2.out)) HG.out).mono ?_
        rintro e v3 ⟨rfl, hb⟩
        have B3 := Lib.hid (below_on B2.out hb)
        clear hb B2
        go_wp2_with fail
        refine (rgood_is (w := v3) HN.out H50.out.1 (HL.out.on (below_on HO5.out B3.out)) HG.out).mono ?_
        rintro e v4 ⟨rfl, hb⟩
        have B4 := Lib.hid (below_on B3.out hb)
        clear hb B3
        have p4 := (HP5.out.on B4.out).c
        go_wp2_with fail
        clear p4
        refine (text_is (w := v4) HN.out (HL.out.on (below_on HO5.out B4.out)) HT.out).mono ?_
        rintro e v5 ⟨rfl, hb⟩
        have B5 := Lib.hid (below_on B4.out hb)
        clear hb B4
        go_wp2_with fail
        refine (rtext_is (w := v5) HN.out H50.out.1 (HL.out.on (below_on HO5.out B5.out)) HT.out).mono ?_
        rintro e v6 ⟨rfl, hb⟩
        have B6 := Lib.hid (below_on B5.out hb)
        clear hb B5
        have p6 := (HP5.out.on B6.out).c
        go_wp2_with fail
        clear p6
        refine (begins_is (w := v6) HN.out HK.out HCAP.out H50.out.1 (HL.out.on (below_on HO5.out B6.out)) (HM.out.on (below_on HO5.out B6.out)) HX.out).mono ?_
        rintro e v7 ⟨rfl, hb⟩
        have B7 := Lib.hid (below_on HO5.out (below_on B6.out hb))
        clear hb B6
        go_wp2
        go_ret
        exact ⟨by simp, B7.out⟩
      · obtain ⟨hkn, htake⟩ := HYES.out rfl
        obtain ⟨g1, o1, rfl, x1, y1⟩ := HL.out (by rw [← HN.out]; omega)
        obtain ⟨g2, o2, rfl, x2, y2⟩ := HM.out (by rw [← HK.out]; omega)
        obtain ⟨a, ha⟩ : ∃ a, l[i]? = some a := ⟨l[i]'(by rw [← HN.out]; omega), List.getElem?_eq_getElem _⟩
        obtain ⟨b, hb⟩ : ∃ b, m[i]? = some b := ⟨m[i]'(by rw [← HK.out]; exact hlt), List.getElem?_eq_getElem _⟩
        have bo := below_on HO4.out HB.out
        have c1 : wr.cell? ⟨g1, o1 + i, none⟩ = some (.int .i64 a) := by rw [bo.cell (p := ⟨g1, _, none⟩) x1]; exact y1 i a ha
        have c2 : wr.cell? ⟨g2, o2 + i, none⟩ = some (.int .i64 b) := by rw [bo.cell (p := ⟨g2, _, none⟩) x2]; exact y2 i b hb
        have hin : (i : Int) < (n : Int) := by omega
        obtain ⟨y, hy⟩ : ∃ y, y = ((a : Int) == b) := ⟨_, rfl⟩
        have hy2 : (a == b) = y := hy.symm
        have HKN := Lib.hid hkn
        have HY : Hid ((y = true → k ≤ n ∧ l.take (i + 1) = m.take (i + 1)) ∧ (y = false → pbegins l m = false)) := Lib.hid (by
          constructor
          · intro h
            rw [hy, beq_iff_eq] at h
            exact ⟨hkn, by rw [List.take_add_one, List.take_add_one, htake, ha, hb, h]⟩
          · intro h
            rw [hy, beq_eq_false_iff_ne] at h
            rw [pbegins, ← HK.out, ← HN.out, decide_eq_true hkn, Bool.true_and, beq_eq_false_iff_ne]
            intro e
            have : (l.take k)[i]? = m[i]? := by rw [e]
            rw [List.getElem?_take_of_lt hlt, ha, hb] at this
            exact h (Option.some.inj this))
        clear x1 x2 y1 y2 ha hb bo hkn htake hy HYES HNO
        go_wp2_with fail
        go_quiet (fail)
        go_wp2
        go_roundg (k - (i + 1))
        case measure => have := HI.out; have := HLT.out; omega
        case rel => exact ⟨i + 1, y, by have := HLT.out; omega, rfl, (by refine congrArg _ ?_; have := HK50.out; have := HLT.out; first | rfl | (unfold wrap64; omega)), HY.out.1, HY.out.2, below_draws HB.out _⟩
    · have hx : b = x := by
        have hik : i = k := by have := HI.out; omega
        rw [← HX.out]
        rcases b with _ | _
        · exact (HNO.out rfl).symm
        · obtain ⟨hkn, htake⟩ := HYES.out rfl
          rw [hik] at htake
          conv at htake => rhs; rw [HK.out, List.take_length]
          rw [pbegins, ← HK.out, ← HN.out, decide_eq_true hkn, Bool.true_and, htake]
          simp
      subst hx
      have HO5 := Lib.hid (below_on HO4.out HB.out)
      have HP5 := Lib.hid (HP4.out.on HB.out)
      have hq5 := HQ4.out.on HB.out
      have HR5 := Lib.hid (HR4.out.on HB.out)
      have HC5 := Lib.hid (HC4.out.on HB.out)
      have HD5 := Lib.hid (HD4.out.on HB.out)
      have HE5 := Lib.hid (HE4.out.on HB.out)
      have HF5 := Lib.hid (HF4.out.on HB.out)
      have q5 := hq5.c
      clear hq5 HNO HYES
      go_wp2_with fail
      refine (ints_is (w := wr) HQ.out HQ.out H6.out.1 HC5.out HD5.out (same_ints L)).mono ?_
      rintro e v1 ⟨rfl, hb⟩
      have B1 := Lib.hid hb
      have r1 := (HR5.out.on hb).c
      clear hb
      go_wp2_with fail
      clear r1
      refine (ints_is (w := v1) HU.out HU.out H6.out.2 (HE5.out.on B1.out) (HF5.out.on B1.out) (same_ints M)).mono ?_
      rintro e v2 ⟨rfl, hb⟩
      have B2 := Lib.hid (below_on B1.out hb)
      clear hb B1
      have p2 := (HP5.out.on B2.out).c
      go_wp2_with fail
      clear p2
      refine (good_is (w := v2) HN.out (HL.out.on (below_on HO5.out B2.out)) HG.out).mono ?_
      rintro e v3 ⟨rfl, hb⟩
      have B3 := Lib.hid (below_on B2.out hb)
      clear hb B2
      go_wp2_with fail
      refine (rgood_is (w := v3) HN.out H50.out.1 (HL.out.on (below_on HO5.out B3.out)) HG.out).mono ?_
      rintro e v4 ⟨rfl, hb⟩
      have B4 := Lib.hid (below_on B3.out hb)
      clear hb B3
      have p4 := (HP5.out.on B4.out).c
      go_wp2_with fail
      clear p4
      refine (text_is (w := v4) HN.out (HL.out.on (below_on HO5.out B4.out)) HT.out).mono ?_
      rintro e v5 ⟨rfl, hb⟩
      have B5 := Lib.hid (below_on B4.out hb)
      clear hb B4
      go_wp2_with fail
      refine (rtext_is (w := v5) HN.out H50.out.1 (HL.out.on (below_on HO5.out B5.out)) HT.out).mono ?_
      rintro e v6 ⟨rfl, hb⟩
      have B6 := Lib.hid (below_on B5.out hb)
      clear hb B5
      have p6 := (HP5.out.on B6.out).c
      go_wp2_with fail
      clear p6
      refine (begins_is (w := v6) HN.out HK.out HCAP.out H50.out.1 (HL.out.on (below_on HO5.out B6.out)) (HM.out.on (below_on HO5.out B6.out)) HX.out).mono ?_
      rintro e v7 ⟨rfl, hb⟩
      have B7 := Lib.hid (below_on HO5.out (below_on B6.out hb))
      clear hb B6
      go_wp2
      go_ret
      exact ⟨by simp, B7.out⟩
end Go.Proofs.YtcobcdkpfmifeaaDoor
