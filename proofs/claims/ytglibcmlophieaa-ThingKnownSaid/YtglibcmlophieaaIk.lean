/-
  The walk of the law ThingBack, over what the program's calls answer. Condition: the words lie in memory.
-/
import Derived.Test.YtglibcmlophieaaIh
namespace Go.Proofs.Ytglibcmlophieaa
open Go.RowKit

/-- a thing whose word and data are words -/
structure Wide (t : Tng) : Prop where
  word : t.word < 18446744073709551616
  d0 : t.d0 < 18446744073709551616
  d1 : t.d1 < 18446744073709551616
  d2 : t.d2 < 18446744073709551616
  d3 : t.d3 < 18446744073709551616
theorem Cot.putg (K : Cot) {t : Tng} (h : t.good = true) (w : World) : Calls Try.prog 10 #[.agg #[.int .i64 t.ty, .int .i64 t.bits, .int .i64 t.base, .int .i64 t.size, .int .i64 t.used, .int .i64 t.frm, .int .i64 t.badge, .bool t.full, .int .u64 (t.word : Int), .int .u64 (t.d0 : Int), .int .u64 (t.d1 : Int), .int .u64 (t.d2 : Int), .int .u64 (t.d3 : Int)]] w fun e w' => ∃ B cb, e = .returned (.slice B 8 cb) ∧ 8 ≤ cb ∧ WordsAt w' w'.heap.size B t.words ∧ Below w.heap.size w w' := by
  have := K.put t w
  rw [tput, if_pos h] at this
  exact this
theorem Cot.putn (K : Cot) {t : Tng} (h : t.good = false) (w : World) : Calls Try.prog 10 #[.agg #[.int .i64 t.ty, .int .i64 t.bits, .int .i64 t.base, .int .i64 t.size, .int .i64 t.used, .int .i64 t.frm, .int .i64 t.badge, .bool t.full, .int .u64 (t.word : Int), .int .u64 (t.d0 : Int), .int .u64 (t.d1 : Int), .int .u64 (t.d2 : Int), .int .u64 (t.d3 : Int)]] w fun e w' => ∃ B cb, e = .returned (.slice B 0 cb) ∧ Below w.heap.size w w' := by
  have := K.put t w
  rw [tput, h] at this
  exact this.mono fun _ _ ⟨B, cb, e, _, _, hb⟩ => ⟨B, cb, e, hb⟩
theorem Cot.putl (K : Cot) {t : Tng} {l : List Nat} {n : Nat} (h : Gth t) (hl : t.words = l) (hn : n = l.length) (w : World) : Calls Try.prog 10 #[.agg #[.int .i64 t.ty, .int .i64 t.bits, .int .i64 t.base, .int .i64 t.size, .int .i64 t.used, .int .i64 t.frm, .int .i64 t.badge, .bool t.full, .int .u64 (t.word : Int), .int .u64 (t.d0 : Int), .int .u64 (t.d1 : Int), .int .u64 (t.d2 : Int), .int .u64 (t.d3 : Int)]] w fun e w' => ∃ B cb, e = .returned (.slice B n cb) ∧ n ≤ cb ∧ WordsAt w' w'.heap.size B l ∧ Below w.heap.size w w' := by
  have := K.put t w
  rw [tput, if_pos (tng_good.2 h), hl] at this
  exact hn ▸ this
theorem Cot.is (K : Cot) {t : Tng} {g : Bool} (h : t.good = g) (w : World) : Calls Try.prog 9 #[.agg #[.int .i64 t.ty, .int .i64 t.bits, .int .i64 t.base, .int .i64 t.size, .int .i64 t.used, .int .i64 t.frm, .int .i64 t.badge, .bool t.full, .int .u64 (t.word : Int), .int .u64 (t.d0 : Int), .int .u64 (t.d1 : Int), .int .u64 (t.d2 : Int), .int .u64 (t.d3 : Int)]] w fun e w' => e = .returned (.bool g) ∧ Below w.heap.size w w' := h ▸ K.good t w
theorem Cot.gets (K : Cot) {A : Option Addr} {n cap : Nat} {l : List Nat} {t : Tng} {w : World} (hn : n = l.length) (hc : n ≤ cap) (h6 : n ≤ 1000000) (hL : WordsAt w w.heap.size A l) (hT : ∀ z ∈ l, z < 18446744073709551616) (h : tget l = some t) : Calls Try.prog 13 #[.slice A n cap] w fun e w' => e = .returned (.tuple #[.agg #[.int .i64 t.ty, .int .i64 t.bits, .int .i64 t.base, .int .i64 t.size, .int .i64 t.used, .int .i64 t.frm, .int .i64 t.badge, .bool t.full, .int .u64 (t.word : Int), .int .u64 (t.d0 : Int), .int .u64 (t.d1 : Int), .int .u64 (t.d2 : Int), .int .u64 (t.d3 : Int)], .bool true]) ∧ Below w.heap.size w w' := K.get hn hc h6 hL hT h
theorem Cot.getn (K : Cot) {A : Option Addr} {n cap : Nat} {l : List Nat} {w : World} (hn : n = l.length) (hc : n ≤ cap) (h6 : n ≤ 1000000) (hL : WordsAt w w.heap.size A l) (hT : ∀ z ∈ l, z < 18446744073709551616) (h : tget l = none) : Calls Try.prog 13 #[.slice A n cap] w fun e w' => e = .returned (.tuple #[.agg #[.int .i64 0, .int .i64 0, .int .i64 0, .int .i64 0, .int .i64 0, .int .i64 0, .int .i64 0, .bool false, .int .u64 0, .int .u64 0, .int .u64 0, .int .u64 0, .int .u64 0], .bool false]) ∧ Below w.heap.size w w' := K.get hn hc h6 hL hT h

set_option maxHeartbeats 8000000 in
theorem tback_walk (K : Cot) (t : Tng) (ht : Wide t) (A : Option Addr) (cap : Nat) (l : List Nat) (w : World) (hc : l.length ≤ cap) (hL : WordsAt w w.heap.size A l) (hT : ∀ z ∈ l, z < 18446744073709551616) :
    Calls Try.prog 5 #[.agg #[.int .i64 t.ty, .int .i64 t.bits, .int .i64 t.base, .int .i64 t.size, .int .i64 t.used, .int .i64 t.frm, .int .i64 t.badge, .bool t.full, .int .u64 (t.word : Int), .int .u64 (t.d0 : Int), .int .u64 (t.d1 : Int), .int .u64 (t.d2 : Int), .int .u64 (t.d3 : Int)], .slice A l.length cap] w fun e w' => e = .returned (.bool true) ∧ Below w.heap.size w w' := by
  obtain ⟨n, hn⟩ : ∃ n, n = l.length := ⟨_, rfl⟩
  rw [← hn] at hc ⊢
  have HN := Lib.hid hn
  have HC := Lib.hid hc
  have HL := Lib.hid hL
  have HW := Lib.hid hT
  have HTW := Lib.hid ht
  have hT1 : Tbx w (w.alloc (.cells #[.int .i64 t.ty, .int .i64 t.bits, .int .i64 t.base, .int .i64 t.size, .int .i64 t.used, .int .i64 t.frm, .int .i64 t.badge, .bool t.full, .int .u64 (t.word : Int), .int .u64 (t.d0 : Int), .int .u64 (t.d1 : Int), .int .u64 (t.d2 : Int), .int .u64 (t.d3 : Int)] 26)) w.heap.size t := Tbx.new w t 26
  have heq : ∀ w, (Op.equalIn 10000 26 (.agg #[.int .i64 t.ty, .int .i64 t.bits, .int .i64 t.base, .int .i64 t.size, .int .i64 t.used, .int .i64 t.frm, .int .i64 t.badge, .bool t.full, .int .u64 (t.word : Int), .int .u64 (t.d0 : Int), .int .u64 (t.d1 : Int), .int .u64 (t.d2 : Int), .int .u64 (t.d3 : Int)]) (.agg #[.int .i64 t.ty, .int .i64 t.bits, .int .i64 t.base, .int .i64 t.size, .int .i64 t.used, .int .i64 t.frm, .int .i64 t.badge, .bool t.full, .int .u64 (t.word : Int), .int .u64 (t.d0 : Int), .int .u64 (t.d1 : Int), .int .u64 (t.d2 : Int), .int .u64 (t.d3 : Int)])).run Try.prog w = .ok true w := fun w => by
    have := teq26 t t w
    rw [Tng.eq_self] at this
    exact this
  have heqz : ∀ w, (Op.equalIn 10000 26 (.agg #[.int .i64 0, .int .i64 0, .int .i64 0, .int .i64 0, .int .i64 0, .int .i64 0, .int .i64 0, .bool false, .int .u64 0, .int .u64 0, .int .u64 0, .int .u64 0, .int .u64 0]) (.agg #[.int .i64 0, .int .i64 0, .int .i64 0, .int .i64 0, .int .i64 0, .int .i64 0, .int .i64 0, .bool false, .int .u64 0, .int .u64 0, .int .u64 0, .int .u64 0, .int .u64 0])).run Try.prog w = .ok true w := fun w => by
    have := teq26 .zero .zero w
    rw [Tng.eq_self] at this
    exact this
  clear hn hc hL hT ht
  by_cases h20 : 20 < n
  · have h20' : (20 : Int) < (n : Int) := by omega
    clear heq heqz
    go_enter Try.func5, Try.ntmps5
    go_wp2_with fail
    generalize w.alloc (.cells #[.int .i64 t.ty, .int .i64 t.bits, .int .i64 t.base, .int .i64 t.size, .int .i64 t.used, .int .i64 t.frm, .int .i64 t.badge, .bool t.full, .int .u64 (t.word : Int), .int .u64 (t.d0 : Int), .int .u64 (t.d1 : Int), .int .u64 (t.d2 : Int), .int .u64 (t.d3 : Int)] 26) = w1 at hT1 ⊢
    refine (awake_any K w1).mono ?_
    rintro e w2 ⟨rfl, hb⟩
    have HO := Lib.hid (hT1.on hb).old
    clear hT1 hb
    go_wp2
    go_ret
    exact ⟨rfl, HO.out⟩
  have h20' : ¬ (20 : Int) < (n : Int) := by omega
  have H6 : Hid (n ≤ 1000000) := Lib.hid (by omega)
  clear h20

  rcases hg : t.good with _ | _
  · have HGD := Lib.hid hg
    clear hg
    go_enter Try.func5, Try.ntmps5
    go_wp2_with fail
    generalize w.alloc (.cells #[.int .i64 t.ty, .int .i64 t.bits, .int .i64 t.base, .int .i64 t.size, .int .i64 t.used, .int .i64 t.frm, .int .i64 t.badge, .bool t.full, .int .u64 (t.word : Int), .int .u64 (t.d0 : Int), .int .u64 (t.d1 : Int), .int .u64 (t.d2 : Int), .int .u64 (t.d3 : Int)] 26) = w1 at hT1 ⊢
    refine (awake_any K w1).mono ?_
    rintro e w2 ⟨rfl, hb⟩
    have HT := Lib.hid (hT1.on hb)
    clear hT1 hb
    obtain ⟨c0, c1, c2, c3, c4, c5, c6, c7, c8, c9, c10, c11, c12, _, _, _, ltc0⟩ := HT.out
    go_wp2_with fail
    refine (K.putn HGD.out w2).mono ?_
    rintro e w3 ⟨B, cb, rfl, hb⟩
    have HT2 := Lib.hid (HT.out.on hb)
    clear hb HT c0 c1 c2 c3 c4 c5 c6 c7 c8 c9 c10 c11 c12
    obtain ⟨c0, c1, c2, c3, c4, c5, c6, c7, c8, c9, c10, c11, c12, _, _, _, ltc0⟩ := HT2.out
    go_wp2_with fail
    refine (K.is HGD.out w3).mono ?_
    rintro e w4 ⟨rfl, hb⟩
    have HT3 := Lib.hid (HT2.out.on hb)
    clear hb HT2 c0 c1 c2 c3 c4 c5 c6 c7 c8 c9 c10 c11 c12
    rcases hr : tget l with _ | u
    · have HR := Lib.hid hr
      clear hr heq
      go_wp2_with fail
      refine (K.getn (w := w4) HN.out HC.out H6.out (HL.out.grow HT3.out.old) HW.out HR.out).mono ?_
      rintro e v1 ⟨rfl, hb⟩
      have hZ : Tbx v1 (v1.alloc (.cells #[.int .i64 0, .int .i64 0, .int .i64 0, .int .i64 0, .int .i64 0, .int .i64 0, .int .i64 0, .bool false, .int .u64 0, .int .u64 0, .int .u64 0, .int .u64 0, .int .u64 0] 26)) v1.heap.size .zero := Tbx.new v1 .zero 26
      have HO := Lib.hid (below_on (below_on HT3.out.old hb) hZ.old)
      clear hZ hb
      go_wp2
      go_ret
      exact ⟨rfl, HO.out⟩
    · have HR := Lib.hid hr
      have HG := Lib.hid (tget_some hr)
      have HGG := Lib.hid (tng_good.2 (tget_some hr).1)
      clear hr heq heqz
      go_wp2_with fail
      refine (K.gets (w := w4) HN.out HC.out H6.out (HL.out.grow HT3.out.old) HW.out HR.out).mono ?_
      rintro e v1 ⟨rfl, hb⟩
      have hU : Tbx v1 (v1.alloc (.cells #[.int .i64 u.ty, .int .i64 u.bits, .int .i64 u.base, .int .i64 u.size, .int .i64 u.used, .int .i64 u.frm, .int .i64 u.badge, .bool u.full, .int .u64 (u.word : Int), .int .u64 (u.d0 : Int), .int .u64 (u.d1 : Int), .int .u64 (u.d2 : Int), .int .u64 (u.d3 : Int)] 26)) v1.heap.size u := Tbx.new v1 u 26
      have HO := Lib.hid (below_on (below_on HT3.out.old hb) hU.old)
      have HM := Lib.hid (((HL.out.grow HT3.out.old).grow hb).grow hU.old)
      clear hb
      go_wp2_with fail
      generalize v1.alloc (.cells #[.int .i64 u.ty, .int .i64 u.bits, .int .i64 u.base, .int .i64 u.size, .int .i64 u.used, .int .i64 u.frm, .int .i64 u.badge, .bool u.full, .int .u64 (u.word : Int), .int .u64 (u.d0 : Int), .int .u64 (u.d1 : Int), .int .u64 (u.d2 : Int), .int .u64 (u.d3 : Int)] 26) = v2 at hU HO HM ⊢
      refine (K.is HGG.out v2).mono ?_
      rintro e v3 ⟨rfl, hb⟩
      have HU := Lib.hid (hU.on hb)
      have HO2 := Lib.hid (below_on HO.out hb)
      have HM2 := Lib.hid (HM.out.grow hb)
      clear hU hb HO HM
      obtain ⟨e0, e1, e2, e3, e4, e5, e6, e7, e8, e9, e10, e11, e12, _, _, _, lte0⟩ := HU.out
      go_wp2_with fail
      refine (K.putl HG.out.1 HG.out.2 HN.out v3).mono ?_
      rintro e v4 ⟨B, cb, rfl, _, hi, hb⟩
      have HO3 := Lib.hid (below_on HO2.out hb)
      have HM3 := Lib.hid (HM2.out.grow hb)
      have HI := Lib.hid hi
      clear hb hi HO2 HM2 e0 e1 e2 e3 e4 e5 e6 e7 e8 e9 e10 e11 e12
      go_wp2_with fail
      refine (twords_is (w := v4) HN.out HN.out H6.out HI.out HM3.out (beq_self_eq_true l)).mono ?_
      rintro e v5 ⟨rfl, hb⟩
      have HO4 := Lib.hid (below_on HO3.out hb)
      clear hb
      go_wp2
      go_ret
      exact ⟨rfl, HO4.out⟩
  · have HGD := Lib.hid hg
    have HGT := Lib.hid (tget_words (tng_good.1 hg))
    have HLT := Lib.hid (words_lt (tng_good.1 hg) HTW.out.word HTW.out.d0 HTW.out.d1 HTW.out.d2 HTW.out.d3)
    clear hg
    go_enter Try.func5, Try.ntmps5
    go_wp2_with fail
    generalize w.alloc (.cells #[.int .i64 t.ty, .int .i64 t.bits, .int .i64 t.base, .int .i64 t.size, .int .i64 t.used, .int .i64 t.frm, .int .i64 t.badge, .bool t.full, .int .u64 (t.word : Int), .int .u64 (t.d0 : Int), .int .u64 (t.d1 : Int), .int .u64 (t.d2 : Int), .int .u64 (t.d3 : Int)] 26) = w1 at hT1 ⊢
    refine (awake_any K w1).mono ?_
    rintro e w2 ⟨rfl, hb⟩
    have HT := Lib.hid (hT1.on hb)
    clear hT1 hb
    obtain ⟨c0, c1, c2, c3, c4, c5, c6, c7, c8, c9, c10, c11, c12, _, _, _, ltc0⟩ := HT.out
    go_wp2_with fail
    refine (K.putg HGD.out w2).mono ?_
    rintro e w3 ⟨B, cb, rfl, hcb, hi, hb⟩
    have HT2 := Lib.hid (HT.out.on hb)
    have HCB := Lib.hid hcb
    have HI := Lib.hid hi
    clear hb HT hi hcb c0 c1 c2 c3 c4 c5 c6 c7 c8 c9 c10 c11 c12
    obtain ⟨c0, c1, c2, c3, c4, c5, c6, c7, c8, c9, c10, c11, c12, _, _, _, ltc0⟩ := HT2.out
    go_wp2_with fail
    refine (K.is HGD.out w3).mono ?_
    rintro e w4 ⟨rfl, hb⟩
    have HT3 := Lib.hid (HT2.out.on hb)
    have HI2 := Lib.hid (HI.out.grow hb)
    clear hb HT2 HI c0 c1 c2 c3 c4 c5 c6 c7 c8 c9 c10 c11 c12
    go_wp2_with fail
    refine (K.gets (w := w4) (n := 8) (l := t.words) rfl HCB.out (by decide) HI2.out HLT.out HGT.out).mono ?_
    rintro e w5 ⟨rfl, hb⟩
    have hX : Tbx w5 (w5.alloc (.cells #[.int .i64 t.ty, .int .i64 t.bits, .int .i64 t.base, .int .i64 t.size, .int .i64 t.used, .int .i64 t.frm, .int .i64 t.badge, .bool t.full, .int .u64 (t.word : Int), .int .u64 (t.d0 : Int), .int .u64 (t.d1 : Int), .int .u64 (t.d2 : Int), .int .u64 (t.d3 : Int)] 26)) w5.heap.size t := Tbx.new w5 t 26
    have HT4 := Lib.hid ((HT3.out.on hb).on hX.old)
    clear hb HT3 HI2 hX
    obtain ⟨c0, c1, c2, c3, c4, c5, c6, c7, c8, c9, c10, c11, c12, _, _, _, ltc0⟩ := HT4.out
    go_wp2_with fail
    clear c0 c1 c2 c3 c4 c5 c6 c7 c8 c9 c10 c11 c12
    generalize w5.alloc (.cells #[.int .i64 t.ty, .int .i64 t.bits, .int .i64 t.base, .int .i64 t.size, .int .i64 t.used, .int .i64 t.frm, .int .i64 t.badge, .bool t.full, .int .u64 (t.word : Int), .int .u64 (t.d0 : Int), .int .u64 (t.d1 : Int), .int .u64 (t.d2 : Int), .int .u64 (t.d3 : Int)] 26) = w6 at HT4 ⊢
    rcases hr : tget l with _ | u
    · have HR := Lib.hid hr
      clear hr heq
      go_wp2_with fail
      refine (K.getn (w := w6) HN.out HC.out H6.out (HL.out.grow HT4.out.old) HW.out HR.out).mono ?_
      rintro e v1 ⟨rfl, hb⟩
      have hZ : Tbx v1 (v1.alloc (.cells #[.int .i64 0, .int .i64 0, .int .i64 0, .int .i64 0, .int .i64 0, .int .i64 0, .int .i64 0, .bool false, .int .u64 0, .int .u64 0, .int .u64 0, .int .u64 0, .int .u64 0] 26)) v1.heap.size .zero := Tbx.new v1 .zero 26
      have HO := Lib.hid (below_on (below_on HT4.out.old hb) hZ.old)
      clear hZ hb
      go_wp2
      go_ret
      exact ⟨rfl, HO.out⟩
    · have HR := Lib.hid hr
      have HG := Lib.hid (tget_some hr)
      have HGG := Lib.hid (tng_good.2 (tget_some hr).1)
      clear hr heq heqz
      go_wp2_with fail
      refine (K.gets (w := w6) HN.out HC.out H6.out (HL.out.grow HT4.out.old) HW.out HR.out).mono ?_
      rintro e v1 ⟨rfl, hb⟩
      have hU : Tbx v1 (v1.alloc (.cells #[.int .i64 u.ty, .int .i64 u.bits, .int .i64 u.base, .int .i64 u.size, .int .i64 u.used, .int .i64 u.frm, .int .i64 u.badge, .bool u.full, .int .u64 (u.word : Int), .int .u64 (u.d0 : Int), .int .u64 (u.d1 : Int), .int .u64 (u.d2 : Int), .int .u64 (u.d3 : Int)] 26)) v1.heap.size u := Tbx.new v1 u 26
      have HO := Lib.hid (below_on (below_on HT4.out.old hb) hU.old)
      have HM := Lib.hid (((HL.out.grow HT4.out.old).grow hb).grow hU.old)
      clear hb
      go_wp2_with fail
      generalize v1.alloc (.cells #[.int .i64 u.ty, .int .i64 u.bits, .int .i64 u.base, .int .i64 u.size, .int .i64 u.used, .int .i64 u.frm, .int .i64 u.badge, .bool u.full, .int .u64 (u.word : Int), .int .u64 (u.d0 : Int), .int .u64 (u.d1 : Int), .int .u64 (u.d2 : Int), .int .u64 (u.d3 : Int)] 26) = v2 at hU HO HM ⊢
      refine (K.is HGG.out v2).mono ?_
      rintro e v3 ⟨rfl, hb⟩
      have HU := Lib.hid (hU.on hb)
      have HO2 := Lib.hid (below_on HO.out hb)
      have HM2 := Lib.hid (HM.out.grow hb)
      clear hU hb HO HM
      obtain ⟨e0, e1, e2, e3, e4, e5, e6, e7, e8, e9, e10, e11, e12, _, _, _, lte0⟩ := HU.out
      go_wp2_with fail
      refine (K.putl HG.out.1 HG.out.2 HN.out v3).mono ?_
      rintro e v4 ⟨B, cb, rfl, _, hi, hb⟩
      have HO3 := Lib.hid (below_on HO2.out hb)
      have HM3 := Lib.hid (HM2.out.grow hb)
      have HI := Lib.hid hi
      clear hb hi HO2 HM2 e0 e1 e2 e3 e4 e5 e6 e7 e8 e9 e10 e11 e12
      go_wp2_with fail
      refine (twords_is (w := v4) HN.out HN.out H6.out HI.out HM3.out (beq_self_eq_true l)).mono ?_
      rintro e v5 ⟨rfl, hb⟩
      have HO4 := Lib.hid (below_on HO3.out hb)
      clear hb
      go_wp2
      go_ret
      exact ⟨rfl, HO4.out⟩
end Go.Proofs.Ytglibcmlophieaa
