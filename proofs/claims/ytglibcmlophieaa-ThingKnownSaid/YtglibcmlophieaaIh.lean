/-
  The walk of the law's awake, over what the program's calls answer. No condition.
-/
import Derived.Test.YtglibcmlophieaaIe
namespace Go.Proofs.Ytglibcmlophieaa
open Go.RowKit

theorem words_lt {t : Tng} (h : Gth t) (hw : t.word < 18446744073709551616) (h0 : t.d0 < 18446744073709551616) (h1 : t.d1 < 18446744073709551616) (h2 : t.d2 < 18446744073709551616) (h3 : t.d3 < 18446744073709551616) : ∀ z ∈ t.words, z < 18446744073709551616 := by
  obtain ⟨⟨a1, a2⟩, ⟨b1, b2⟩, ⟨c1, c2⟩, ⟨e1, e2⟩, ⟨f1, f2⟩, ⟨g1, g2⟩, ⟨k1, k2⟩⟩ := h.small
  intro z hz
  have hw0 : t.w0 < 18446744073709551616 := by
    unfold Tng.w0
    cases t.full <;> simp <;> omega
  have hw1 : t.w1 < 18446744073709551616 := by
    unfold Tng.w1
    omega
  simp only [Tng.words, List.mem_cons, List.not_mem_nil, or_false] at hz
  rcases hz with rfl | rfl | rfl | rfl | rfl | rfl | rfl | rfl <;> omega
theorem Cot.costs (K : Cot) {k s n : Int} {w : World} (h : tcost k s = some n) : Calls Try.prog 11 #[.int .i64 k, .int .i64 s] w fun e w' => e = .returned (.tuple #[.int .i64 n, .bool true]) ∧ Below w.heap.size w w' := K.cost h
theorem Cot.not (K : Cot) {k s : Int} {w : World} (h : tcost k s = none) : Calls Try.prog 11 #[.int .i64 k, .int .i64 s] w fun e w' => e = .returned (.tuple #[.int .i64 0, .bool false]) ∧ Below w.heap.size w w' := K.cost h
set_option maxHeartbeats 4000000 in
theorem awake_any (K : Cot) (w : World) : Calls Try.prog 8 #[] w fun e w' => e = .returned (.bool true) ∧ Below w.heap.size w w' := by
  have HC : Hid (tcost 2 3 = some 8) := Lib.hid (by decide +kernel)
  have HN : Hid (tnew 2 3 8 = some (Tng.mk 2 3 8 0 0 0 0 false 0 0 0 0 0)) := Lib.hid (by kernel_rfl)
  have HP : Hid (tput (Tng.mk 2 3 8 0 0 0 0 false 0 0 0 0 0) = (Tng.mk 2 3 8 0 0 0 0 false 0 0 0 0 0).words) := Lib.hid (by decide +kernel)
  have HGT : Hid (tget (Tng.mk 2 3 8 0 0 0 0 false 0 0 0 0 0).words = some (Tng.mk 2 3 8 0 0 0 0 false 0 0 0 0 0)) := Lib.hid (by kernel_rfl)
  have HB : Hid (∀ z ∈ (Tng.mk 2 3 8 0 0 0 0 false 0 0 0 0 0).words, z < 18446744073709551616) := Lib.hid (by decide +kernel)
  have hnew : ∀ w, Calls Try.prog 12 #[.int .i64 2, .int .i64 3, .int .i64 8] w fun e w' => e = .returned (.tuple #[.agg #[.int .i64 2, .int .i64 3, .int .i64 8, .int .i64 0, .int .i64 0, .int .i64 0, .int .i64 0, .bool false, .int .u64 0, .int .u64 0, .int .u64 0, .int .u64 0, .int .u64 0], .bool true]) ∧ Below w.heap.size w w' := fun w => K.new HN.out
  have hput : ∀ w, Calls Try.prog 10 #[.agg #[.int .i64 2, .int .i64 3, .int .i64 8, .int .i64 0, .int .i64 0, .int .i64 0, .int .i64 0, .bool false, .int .u64 0, .int .u64 0, .int .u64 0, .int .u64 0, .int .u64 0]] w fun e w' => WListF w w' e (Tng.mk 2 3 8 0 0 0 0 false 0 0 0 0 0).words := fun w => HP.out ▸ K.put (Tng.mk 2 3 8 0 0 0 0 false 0 0 0 0 0) w
  have heq : ∀ w, (Op.equalIn 10000 26 (.agg #[.int .i64 2, .int .i64 3, .int .i64 8, .int .i64 0, .int .i64 0, .int .i64 0, .int .i64 0, .bool false, .int .u64 0, .int .u64 0, .int .u64 0, .int .u64 0, .int .u64 0]) (.agg #[.int .i64 2, .int .i64 3, .int .i64 8, .int .i64 0, .int .i64 0, .int .i64 0, .int .i64 0, .bool false, .int .u64 0, .int .u64 0, .int .u64 0, .int .u64 0, .int .u64 0])).run Try.prog w = .ok true w := fun w => by
    have := teq26 (Tng.mk 2 3 8 0 0 0 0 false 0 0 0 0 0) (Tng.mk 2 3 8 0 0 0 0 false 0 0 0 0 0) w
    rw [Tng.eq_self] at this
    exact this
  have HNEW := Lib.hid hnew
  have HPUT := Lib.hid hput
  clear hnew hput
  go_enter Try.func8, Try.ntmps8
  go_wp2_with fail
  refine (K.costs HC.out).mono ?_
  rintro e w1 ⟨rfl, hb⟩
  have HO := Lib.hid hb
  clear hb
  go_wp2_with fail
  refine (HNEW.out w1).mono ?_
  rintro e w2 ⟨rfl, hb⟩
  have HO2 := Lib.hid (below_on HO.out hb)
  clear hb HO
  have hT : Tbx w2 (w2.alloc (.cells #[.int .i64 2, .int .i64 3, .int .i64 8, .int .i64 0, .int .i64 0, .int .i64 0, .int .i64 0, .bool false, .int .u64 0, .int .u64 0, .int .u64 0, .int .u64 0, .int .u64 0] 26)) w2.heap.size (Tng.mk 2 3 8 0 0 0 0 false 0 0 0 0 0) := Tbx.new w2 (Tng.mk 2 3 8 0 0 0 0 false 0 0 0 0 0) 26
  go_wp2_with fail
  generalize w2.alloc (.cells #[.int .i64 2, .int .i64 3, .int .i64 8, .int .i64 0, .int .i64 0, .int .i64 0, .int .i64 0, .bool false, .int .u64 0, .int .u64 0, .int .u64 0, .int .u64 0, .int .u64 0] 26) = w3 at hT ⊢
  refine (HPUT.out w3).mono ?_
  rintro e w4 ⟨B, cb, rfl, hcb, hi, hb⟩
  have HT := Lib.hid (hT.on hb)
  have HI := Lib.hid hi
  have HCB := Lib.hid hcb
  clear hb hT hi hcb
  go_wp2_with fail
  have hget : Calls Try.prog 13 #[.slice B (Tng.mk 2 3 8 0 0 0 0 false 0 0 0 0 0).words.length cb] w4 fun e w' => e = .returned (.tuple #[.agg #[.int .i64 2, .int .i64 3, .int .i64 8, .int .i64 0, .int .i64 0, .int .i64 0, .int .i64 0, .bool false, .int .u64 0, .int .u64 0, .int .u64 0, .int .u64 0, .int .u64 0], .bool true]) ∧ Below w4.heap.size w4 w' := K.get rfl HCB.out (by decide) HI.out HB.out HGT.out
  refine hget.mono ?_
  rintro e w5 ⟨rfl, hb⟩
  have HT5 := Lib.hid (HT.out.on hb)
  have hU : Tbx w5 (w5.alloc (.cells #[.int .i64 2, .int .i64 3, .int .i64 8, .int .i64 0, .int .i64 0, .int .i64 0, .int .i64 0, .bool false, .int .u64 0, .int .u64 0, .int .u64 0, .int .u64 0, .int .u64 0] 26)) w5.heap.size (Tng.mk 2 3 8 0 0 0 0 false 0 0 0 0 0) := Tbx.new w5 (Tng.mk 2 3 8 0 0 0 0 false 0 0 0 0 0) 26
  have HT6 := Lib.hid (HT5.out.on hU.old)
  clear hget hb hU
  obtain ⟨c0, c1, c2, c3, c4, c5, c6, c7, c8, c9, c10, c11, c12, _, _, _, lt⟩ := HT6.out
  simp only [Int.ofNat_zero] at c0 c1 c2 c3 c4 c5 c6 c7 c8 c9 c10 c11 c12
  go_wp2
  go_ret
  exact ⟨rfl, below_on HO2.out HT6.out.old⟩
end Go.Proofs.Ytglibcmlophieaa
