/-
  The walks of the laws ThingNew and ThingApart, over what the program's calls answer. No condition.
-/
import Derived.Test.YtglibcmlophieaaIh
namespace Go.Proofs.Ytglibcmlophieaa
open Go.RowKit

set_option maxHeartbeats 8000000 in
theorem tnew_walk (K : Cot) (k s b : Int) (w : World) : Calls Try.prog 7 #[.int .i64 k, .int .i64 s, .int .i64 b] w fun e w' => e = .returned (.bool true) ∧ Below w.heap.size w w' := by
  rcases hr : tnew k s b with _ | t
  · have hnew : ∀ w, Calls Try.prog 12 #[.int .i64 k, .int .i64 s, .int .i64 b] w fun e w' => e = .returned (.tuple #[.agg #[.int .i64 0, .int .i64 0, .int .i64 0, .int .i64 0, .int .i64 0, .int .i64 0, .int .i64 0, .bool false, .int .u64 0, .int .u64 0, .int .u64 0, .int .u64 0, .int .u64 0], .bool false]) ∧ Below w.heap.size w w' := fun w => K.new hr
    have HNEW := Lib.hid hnew
    have heq : ∀ w, (Op.equalIn 10000 26 (.agg #[.int .i64 0, .int .i64 0, .int .i64 0, .int .i64 0, .int .i64 0, .int .i64 0, .int .i64 0, .bool false, .int .u64 0, .int .u64 0, .int .u64 0, .int .u64 0, .int .u64 0]) (.agg #[.int .i64 0, .int .i64 0, .int .i64 0, .int .i64 0, .int .i64 0, .int .i64 0, .int .i64 0, .bool false, .int .u64 0, .int .u64 0, .int .u64 0, .int .u64 0, .int .u64 0])).run Try.prog w = .ok true w := fun w => by
      have := teq26 .zero .zero w
      rw [Tng.eq_self] at this
      exact this
    have hd := tnew_none hr
    rcases hc : tcost k s with _ | n
    · have HC := Lib.hid hc
      clear hr hnew hc hd
      go_enter Try.func7, Try.ntmps7
      go_wp2_with fail
      refine (awake_any K w).mono ?_
      rintro e w1 ⟨rfl, hb⟩
      have HO := Lib.hid hb
      clear hb
      go_wp2_with fail
      refine (HNEW.out w1).mono ?_
      rintro e w2 ⟨rfl, hb⟩
      have hT : Tbx w2 (w2.alloc (.cells #[.int .i64 0, .int .i64 0, .int .i64 0, .int .i64 0, .int .i64 0, .int .i64 0, .int .i64 0, .bool false, .int .u64 0, .int .u64 0, .int .u64 0, .int .u64 0, .int .u64 0] 26)) w2.heap.size .zero := Tbx.new w2 .zero 26
      have HO2 := Lib.hid (below_on (below_on HO.out hb) hT.old)
      clear hb HO HNEW
      go_wp2_with fail
      generalize w2.alloc (.cells #[.int .i64 0, .int .i64 0, .int .i64 0, .int .i64 0, .int .i64 0, .int .i64 0, .int .i64 0, .bool false, .int .u64 0, .int .u64 0, .int .u64 0, .int .u64 0, .int .u64 0] 26) = w3 at hT HO2 ⊢
      refine (K.not (w := w3) HC.out).mono ?_
      rintro e w4 ⟨rfl, hb⟩
      have HO3 := Lib.hid (below_on HO2.out hb)
      have HT := Lib.hid (hT.on hb)
      clear hb hT HO2
      obtain ⟨c0, c1, c2, c3, c4, c5, c6, c7, c8, c9, c10, c11, c12, _, _, _, ltc0⟩ := HT.out
      simp only [Tng.zero, Tng.of, Int.ofNat_zero] at c0 c1 c2 c3 c4 c5 c6 c7 c8 c9 c10 c11 c12
      go_wp2
      go_ret
      exact ⟨rfl, HO3.out⟩
    · have hk : k = 2 := hd.resolve_left (fun e => by rw [hc] at e; cases e)
      have HC := Lib.hid hc
      subst hk
      clear hr hnew hc hd
      go_enter Try.func7, Try.ntmps7
      go_wp2_with fail
      refine (awake_any K w).mono ?_
      rintro e w1 ⟨rfl, hb⟩
      have HO := Lib.hid hb
      clear hb
      go_wp2_with fail
      refine (HNEW.out w1).mono ?_
      rintro e w2 ⟨rfl, hb⟩
      have hT : Tbx w2 (w2.alloc (.cells #[.int .i64 0, .int .i64 0, .int .i64 0, .int .i64 0, .int .i64 0, .int .i64 0, .int .i64 0, .bool false, .int .u64 0, .int .u64 0, .int .u64 0, .int .u64 0, .int .u64 0] 26)) w2.heap.size .zero := Tbx.new w2 .zero 26
      have HO2 := Lib.hid (below_on (below_on HO.out hb) hT.old)
      clear hb HO HNEW
      go_wp2_with fail
      generalize w2.alloc (.cells #[.int .i64 0, .int .i64 0, .int .i64 0, .int .i64 0, .int .i64 0, .int .i64 0, .int .i64 0, .bool false, .int .u64 0, .int .u64 0, .int .u64 0, .int .u64 0, .int .u64 0] 26) = w3 at hT HO2 ⊢
      refine (K.costs (w := w3) HC.out).mono ?_
      rintro e w4 ⟨rfl, hb⟩
      have HO3 := Lib.hid (below_on HO2.out hb)
      have HT := Lib.hid (hT.on hb)
      clear hb hT HO2
      obtain ⟨c0, c1, c2, c3, c4, c5, c6, c7, c8, c9, c10, c11, c12, _, _, _, ltc0⟩ := HT.out
      simp only [Tng.zero, Tng.of, Int.ofNat_zero] at c0 c1 c2 c3 c4 c5 c6 c7 c8 c9 c10 c11 c12
      go_wp2
      go_ret
      exact ⟨rfl, HO3.out⟩
  · obtain ⟨⟨n, hc, hn⟩, hg, h1, h2, h3, h4, h5, h6, h7, h8⟩ := tnew_some hr
    obtain ⟨ty, bits, base, size, used, frm, badge, full, word, d0, d1, d2, d3⟩ := t
    simp only at h1 h2 h3 h4 h5 h6 h7 h8
    subst h1 h2 h3 h4 h5 h6 h7 h8
    have hnew : ∀ w, Calls Try.prog 12 #[.int .i64 ty, .int .i64 s, .int .i64 b] w fun e w' => e = .returned (.tuple #[.agg #[.int .i64 ty, .int .i64 bits, .int .i64 base, .int .i64 size, .int .i64 0, .int .i64 frm, .int .i64 badge, .bool false, .int .u64 0, .int .u64 0, .int .u64 0, .int .u64 0, .int .u64 0], .bool true]) ∧ Below w.heap.size w w' := fun w => K.new hr
    have hgood : ∀ w, Calls Try.prog 9 #[.agg #[.int .i64 ty, .int .i64 bits, .int .i64 base, .int .i64 size, .int .i64 0, .int .i64 frm, .int .i64 badge, .bool false, .int .u64 0, .int .u64 0, .int .u64 0, .int .u64 0, .int .u64 0]] w fun e w' => e = .returned (.bool true) ∧ Below w.heap.size w w' := fun w => by
      have := K.good (Tng.mk ty bits base size 0 frm badge false 0 0 0 0 0) w
      rw [hg] at this
      exact this
    have heq : ∀ w, (Op.equalIn 10000 24 (.agg #[.int .u64 0, .int .u64 0, .int .u64 0, .int .u64 0]) (.agg #[.int .u64 0, .int .u64 0, .int .u64 0, .int .u64 0])).run Try.prog w = .ok true w := fun w => teq24 9998 0 0 0 0 0 0 0 0 w
    have HNEW := Lib.hid hnew
    have HGOOD := Lib.hid hgood
    have HC := Lib.hid hc
    clear hr hnew hc hg hgood
    go_enter Try.func7, Try.ntmps7
    go_wp2_with fail
    refine (awake_any K w).mono ?_
    rintro e w1 ⟨rfl, hb⟩
    have HO := Lib.hid hb
    clear hb
    go_wp2_with fail
    refine (HNEW.out w1).mono ?_
    rintro e w2 ⟨rfl, hb⟩
    have hT : Tbx w2 (w2.alloc (.cells #[.int .i64 ty, .int .i64 bits, .int .i64 base, .int .i64 size, .int .i64 0, .int .i64 frm, .int .i64 badge, .bool false, .int .u64 0, .int .u64 0, .int .u64 0, .int .u64 0, .int .u64 0] 26)) w2.heap.size (Tng.mk ty bits base size 0 frm badge false 0 0 0 0 0) := Tbx.new w2 (Tng.mk ty bits base size 0 frm badge false 0 0 0 0 0) 26
    have HO2 := Lib.hid (below_on (below_on HO.out hb) hT.old)
    clear hb HO HNEW
    go_wp2_with fail
    generalize w2.alloc (.cells #[.int .i64 ty, .int .i64 bits, .int .i64 base, .int .i64 size, .int .i64 0, .int .i64 frm, .int .i64 badge, .bool false, .int .u64 0, .int .u64 0, .int .u64 0, .int .u64 0, .int .u64 0] 26) = w3 at hT HO2 ⊢
    refine (K.costs (w := w3) HC.out).mono ?_
    rintro e w4 ⟨rfl, hb⟩
    have HO3 := Lib.hid (below_on HO2.out hb)
    have HT := Lib.hid (hT.on hb)
    clear hb hT HO2
    obtain ⟨c0, c1, c2, c3, c4, c5, c6, c7, c8, c9, c10, c11, c12, _, _, _, ltc0⟩ := HT.out
    simp only [Int.ofNat_zero] at c0 c1 c2 c3 c4 c5 c6 c7 c8 c9 c10 c11 c12
    go_wp2_with fail
    refine (HGOOD.out w4).mono ?_
    rintro e w5 ⟨rfl, hb⟩
    have HO4 := Lib.hid (below_on HO3.out hb)
    have HT2 := Lib.hid (HT.out.on hb)
    clear hb HO3 HT HGOOD c0 c1 c2 c3 c4 c5 c6 c7 c8 c9 c10 c11 c12
    obtain ⟨e0, e1, e2, e3, e4, e5, e6, e7, e8, e9, e10, e11, e12, _, _, _, lte0⟩ := HT2.out
    simp only [Int.ofNat_zero] at e0 e1 e2 e3 e4 e5 e6 e7 e8 e9 e10 e11 e12
    go_wp2
    go_ret
    exact ⟨rfl, HO4.out⟩

end Go.Proofs.Ytglibcmlophieaa
