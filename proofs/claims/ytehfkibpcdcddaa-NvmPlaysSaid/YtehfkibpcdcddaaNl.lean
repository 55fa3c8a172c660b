/-
  The walk of the law NvmFrom: it answers true. Condition: the lists lie in memory.
-/
import Derived.Test.YtehfkibpcdcddaaNk
namespace Go.Proofs.Ytehfkibpcdcddaa
open Go.RowKit

theorem made_out {l : List Int} {m : Mm} (h : Made l m) (j : Nat) (r : Ln) (hr : m.rows[j]? = some r) : r.out = false := by rw [h.same j r hr]; rfl
theorem outsOf_nil {l : List Ln} (h : ∀ (j : Nat) (r : Ln), l[j]? = some r → r.out = false) (n : Nat) : outsOf l n = [] := by
  induction n with
  | zero => rfl
  | succ n ih =>
    cases hq : l[n]? with
    | some r => rw [outsOf_no hq (h n r hq), ih]
    | none =>
      unfold outsOf at ih ⊢
      rw [List.range_succ, List.filter_append, List.map_append, ih]
      simp [hq]
theorem made_outs {l : List Int} {m : Mm} (h : Made l m) : m.outs = [] := outsOf_nil (made_out h) _
theorem made_crash {l : List Int} {m : Mm} (h : Made l m) (k : List Int) : m.crash k = ⟨m.rows, true, 0, 0, fun _ => false⟩ := by
  have hd : (m.rows.mapIdx fun i r => r.fall (decide ((i : Int) ∈ k))) = m.rows := by
    apply List.ext_getElem?; intro j
    rw [List.getElem?_mapIdx]
    cases hq : m.rows[j]? with
    | none => rfl
    | some r =>
      have := made_out h j r hq
      simp only [Option.map_some]
      unfold Ln.fall
      rw [if_neg (by rw [this]; simp)]
  unfold Mm.crash
  rw [if_neg (by rw [h.off]; simp)]
  unfold Mm.down
  rw [hd, h.n]

set_option maxHeartbeats 4000000 in
theorem from_in (A : Option Addr) (cap : Nat) (l : List Int) (A1 : Option Addr) (cap1 : Nat) (k : List Int) (w : World) (hl : l.length ≤ 400) (hk : k.length ≤ 60) (hL : WordsAt w w.heap.size A l) (hK : IntsAt w w.heap.size A1 k) (h0 : 0 < l.length) (h8 : l.length % 8 = 0) :
    Calls Try.prog 6 #[.slice A l.length cap, .slice A1 k.length cap1] w fun e w' => e = .returned (.bool true) ∧ Below w.heap.size w w' := by
  have LL := Lib.hid hL
  have KK := Lib.hid hK
  have HKL := Lib.hid hk
  obtain ⟨q, hq⟩ : ∃ q, q = l.length := ⟨_, rfl⟩
  obtain ⟨p, hp⟩ : ∃ p, p = k.length := ⟨_, rfl⟩
  have H0 := Lib.hid h0
  have H8 := Lib.hid h8
  have HLL := Lib.hid hl
  rw [← hq] at hl h0 h8 ⊢
  rw [← hp] at hk ⊢
  have HQ := Lib.hid hq
  have HP := Lib.hid hp
  have hl2 : decide ((400 : Int) < (q : Int)) = false := by simp; omega
  have hk2 : decide ((60 : Int) < (p : Int)) = false := by simp; omega
  have hq0 : ((q : Int) == 0) = false := by simp; omega
  have hq8 : (q : Int) % 8 = 0 := by omega
  clear hq hp hL hK h0 h8
  go_enter Try.func6, Try.ntmps6
  go_wp2_with fail
  refine (awake_any _).mono ?_
  rintro e w0 ⟨rfl, hb⟩
  have B0 := Lib.hid hb
  have L0 := Lib.hid ((LL.out.below hb).mono hb.size)
  have K0 := Lib.hid (KK.out.below hb)
  clear hb
  go_wp2_with fail
  have hf := from_any A cap l w0 H0.out H8.out (by have := HLL.out; omega) L0.out
  rw [← HQ.out] at hf
  refine hf.mono ?_
  clear hf
  rintro e x0 ⟨m, rfl, hm, hmd, hb⟩
  have M0 := Lib.hid hm
  have MD := Lib.hid hmd
  have B1 := Lib.hid (B0.out.trans (hb.mono B0.out.size))
  have HR : Hid ((m.rows.length : Int) = (q : Int) / 8) := Lib.hid (by have := hmd.len; have := HQ.out; omega)
  have K1 := Lib.hid (K0.out.below (hb.mono B0.out.size))
  have LI := Lib.hid (((LL.out.below B1.out).lies (cap := cap) B1.out.size))
  clear hm hmd hb
  obtain ⟨b, hbb⟩ : ∃ b, b = w0.heap.size + 1 := ⟨_, rfl⟩
  obtain ⟨rb, hrb⟩ : ∃ rb, rb = w0.heap.size := ⟨_, rfl⟩
  have HB1 : Hid (w.heap.size ≤ b) := Lib.hid (by have := B0.out.size; omega)
  have HB2 : Hid (w.heap.size ≤ rb) := Lib.hid (by have := B0.out.size; omega)
  generalize w0.heap.size + 2 = F at M0
  rw [← hbb, ← hrb] at M0
  rw [← hbb]
  clear hbb hrb B0 L0 K0
  go_wp2_with fail
  refine (mrows_any b rb F m _ M0.out).mono ?_
  rw [HR.out]
  rintro e w' ⟨rfl, rfl⟩
  go_wp2_with fail
  refine (mout_any b rb F m _ M0.out).mono ?_
  rintro e x1 ⟨v, rfl, hv, hb⟩
  rw [made_outs MD.out] at hv
  obtain ⟨A2, cap2, rfl, _⟩ := hv
  have M1 := Lib.hid (M0.out.below hb)
  have B2 := Lib.hid (B1.out.trans (hb.mono B1.out.size))
  have LI1 := Lib.hid (LI.out.below hb)
  have K2 := Lib.hid (K1.out.below (hb.mono B1.out.size))
  clear hb M0 B1 LI K1
  rw [List.length_nil]
  go_wp2_with fail
  refine (mwords_any b rb F m _ M1.out).mono ?_
  rintro e x2 ⟨v, rfl, hv, hb⟩
  rw [MD.out.words] at hv
  have V2 := Lib.hid hv
  have M2 := Lib.hid (M1.out.below hb)
  have B3 := Lib.hid (B2.out.trans (hb.mono B2.out.size))
  have LI2 := Lib.hid (LI1.out.below hb)
  have K3 := Lib.hid (K2.out.below (hb.mono B2.out.size))
  clear hb hv M1 B2 LI1 K2
  go_wp2_with fail
  have hw := words_same _ _ v (.slice A l.length cap) l _ V2.out LI2.out (by have := HLL.out; omega)
  rw [← HQ.out] at hw
  refine hw.mono ?_
  clear hw
  rintro e x3 ⟨rfl, hb⟩
  have M3 := Lib.hid (M2.out.below hb)
  have B4 := Lib.hid (B3.out.trans (hb.mono B3.out.size))
  have LI3 := Lib.hid (LI2.out.below hb)
  have K4 := Lib.hid ((K3.out.below (hb.mono B3.out.size)).mono B4.out.size)
  clear hb M2 B3 LI2 K3 V2
  go_wp2_with fail
  have hc := mcrash_any b rb F m A1 cap1 k _ M3.out (by have := HKL.out; omega) K4.out
  rw [← HP.out] at hc
  refine hc.mono ?_
  clear hc
  rintro e x4 ⟨rfl, hm, ho⟩
  rw [made_crash MD.out] at hm
  have M4 := Lib.hid hm
  have hbo := ho.below HB1.out HB2.out B4.out.size
  have B5 := Lib.hid (B4.out.trans hbo)
  have LI4 := Lib.hid (((LL.out.below B5.out).lies (cap := cap) B5.out.size))
  clear hbo hm ho M3 B4 LI3 K4
  go_wp2_with fail
  refine (mwords_any b rb F _ _ M4.out).mono ?_
  rintro e x5 ⟨v, rfl, hv, hb⟩
  have hv2 : Lies x5 x4.heap.size v .u64 l := by rw [← MD.out.words]; exact hv
  have V5 := Lib.hid hv2
  have M5 := Lib.hid (M4.out.below hb)
  have B6 := Lib.hid (B5.out.trans (hb.mono B5.out.size))
  have LI5 := Lib.hid (LI4.out.below hb)
  clear hb hv hv2 M4 B5 LI4
  go_wp2_with fail
  have hw := words_same _ _ v (.slice A l.length cap) l _ V5.out LI5.out (by have := HLL.out; omega)
  rw [← HQ.out] at hw
  refine hw.mono ?_
  clear hw
  rintro e x6 ⟨rfl, hb⟩
  have M6 := Lib.hid (M5.out.below hb)
  have B7 := Lib.hid (B6.out.trans (hb.mono B6.out.size))
  clear hb M5 B6 LI5 V5
  go_wp2_with (first
    | (go_at_call 24; refine (mcount_any b rb F _ _ M6.out).mono ?_; rintro e w' ⟨rfl, rfl⟩)
    | (go_at_call 16; refine (moff_any b rb F _ _ M6.out).mono ?_; rintro e w' ⟨rfl, rfl⟩))
  go_ret
  exact ⟨rfl, B7.out⟩
set_option maxHeartbeats 2000000 in
theorem from_out (A : Option Addr) (cap : Nat) (q : Nat) (A1 : Option Addr) (cap1 : Nat) (p : Nat) (w : World) (hq : q ≤ maxLen) (hp : p ≤ maxLen)
    (h : 400 < q ∨ (q ≤ 400 ∧ 60 < p) ∨ (q ≤ 400 ∧ p ≤ 60 ∧ q = 0) ∨ (q ≤ 400 ∧ p ≤ 60 ∧ 0 < q ∧ q % 8 ≠ 0)) :
    Calls Try.prog 6 #[.slice A q cap, .slice A1 p cap1] w fun e w' => e = .returned (.bool true) ∧ Below w.heap.size w w' := by
  unfold maxLen at hq hp
  rcases h with h | ⟨h1, h2⟩ | ⟨h1, h2, h3⟩ | ⟨h1, h2, h3, h4⟩
  · have g1 : (400 : Int) < (q : Int) := by omega
    go_enter Try.func6, Try.ntmps6
    go_wp2_with (go_at_call 8; refine (awake_any _).mono ?_; rintro e w' ⟨rfl, hb⟩; have HB := Lib.hid hb; clear hb)
    go_ret
    exact ⟨rfl, HB.out⟩
  · have g1 : decide ((400 : Int) < (q : Int)) = false := by simp; omega
    have g2 : (60 : Int) < (p : Int) := by omega
    go_enter Try.func6, Try.ntmps6
    go_wp2_with (go_at_call 8; refine (awake_any _).mono ?_; rintro e w' ⟨rfl, hb⟩; have HB := Lib.hid hb; clear hb)
    go_ret
    exact ⟨rfl, HB.out⟩
  · subst h3
    have g2 : decide ((60 : Int) < (p : Int)) = false := by simp; omega
    go_enter Try.func6, Try.ntmps6
    go_wp2_with (first
      | (go_at_call 8; refine (awake_any _).mono ?_; rintro e w' ⟨rfl, hb⟩; have HB := Lib.hid hb; clear hb)
      | (go_at_call 10; refine (from_no A cap 0 _ (by omega) (.inr rfl)).mono ?_; rintro e w2 ⟨rfl, rfl⟩))
    go_ret
    exact ⟨rfl, HB.out⟩
  · have g1 : decide ((400 : Int) < (q : Int)) = false := by simp; omega
    have g2 : decide ((60 : Int) < (p : Int)) = false := by simp; omega
    have g3 : ((q : Int) == 0) = false := by simp; omega
    have g4 : ((q : Int) % 8 == 0) = false := by simp; omega
    have HQ : Hid (q ≤ 1000000) := Lib.hid (by omega)
    have H8 : Hid (decide ((q : Int) % 8 = 0) = false) := Lib.hid (by simp; omega)
    clear hq hp h1 h2 h3 h4
    go_enter Try.func6, Try.ntmps6
    go_wp2_with (first
      | (go_at_call 8; refine (awake_any _).mono ?_; rintro e w' ⟨rfl, hb⟩; have HB := Lib.hid hb; clear hb)
      | (go_at_call 10; refine (from_no A cap q _ HQ.out (.inl H8.out)).mono ?_; rintro e w2 ⟨rfl, rfl⟩))
    go_ret
    exact ⟨rfl, HB.out⟩

/-- NvmFrom. -/
theorem from_walk (A : Option Addr) (cap : Nat) (l : List Int) (A1 : Option Addr) (cap1 : Nat) (k : List Int) (w : World) (hl : l.length ≤ maxLen) (hk : k.length ≤ maxLen) (hL : WordsAt w w.heap.size A l) (hK : IntsAt w w.heap.size A1 k) :
    Calls Try.prog 6 #[.slice A l.length cap, .slice A1 k.length cap1] w fun e w' => e = .returned (.bool true) ∧ Below w.heap.size w w' := by
  by_cases h1 : 400 < l.length
  · exact from_out A cap _ A1 cap1 _ w hl hk (.inl h1)
  by_cases h2 : 60 < k.length
  · exact from_out A cap _ A1 cap1 _ w hl hk (.inr (.inl ⟨by omega, h2⟩))
  by_cases h3 : l.length = 0
  · exact from_out A cap _ A1 cap1 _ w hl hk (.inr (.inr (.inl ⟨by omega, by omega, h3⟩)))
  by_cases h4 : l.length % 8 = 0
  · exact from_in A cap l A1 cap1 k w (by omega) (by omega) hL hK (by omega) h4
  · exact from_out A cap _ A1 cap1 _ w hl hk (.inr (.inr (.inr ⟨by omega, by omega, by omega, h4⟩)))
end Go.Proofs.Ytehfkibpcdcddaa
