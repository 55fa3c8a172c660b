/-
  The walk of the law ThingApart, over what the program's calls answer. No condition.
-/
import Derived.Test.YtglibcmlophieaaIh
namespace Go.Proofs.Ytglibcmlophieaa
open Go.RowKit

/-- a call over two boxed things hands on what lies in both boxes -/
theorem two_use {W1 W2 v w1 : World} {ga gb : Nat} {a b : Tng} {Q : Ending → World → Prop} {f : FuncId} {args : Array Value} (hA : Tbx W1 v ga a) (hB : Tbx W2 v gb b) (h : Below v.heap.size v w1) (hc : Calls Try.prog f args w1 fun e w' => Q e w' ∧ Below w1.heap.size w1 w') :
    Calls Try.prog f args w1 fun e w' => (Q e w' ∧ Below w1.heap.size w1 w') ∧ w'.cell? ⟨ga, 0, none⟩ = some (.int .i64 a.ty) ∧ w'.cell? ⟨ga, 1, none⟩ = some (.int .i64 a.bits) ∧ w'.cell? ⟨ga, 2, none⟩ = some (.int .i64 a.base) ∧ w'.cell? ⟨ga, 3, none⟩ = some (.int .i64 a.size) ∧ w'.cell? ⟨ga, 4, none⟩ = some (.int .i64 a.used) ∧ w'.cell? ⟨ga, 5, none⟩ = some (.int .i64 a.frm) ∧ w'.cell? ⟨ga, 6, none⟩ = some (.int .i64 a.badge) ∧ w'.cell? ⟨ga, 7, none⟩ = some (.bool a.full) ∧ w'.cell? ⟨ga, 8, none⟩ = some (.int .u64 (a.word : Int)) ∧ w'.cell? ⟨ga, 9, none⟩ = some (.int .u64 (a.d0 : Int)) ∧ w'.cell? ⟨ga, 10, none⟩ = some (.int .u64 (a.d1 : Int)) ∧ w'.cell? ⟨ga, 11, none⟩ = some (.int .u64 (a.d2 : Int)) ∧ w'.cell? ⟨ga, 12, none⟩ = some (.int .u64 (a.d3 : Int)) ∧ w'.cell? ⟨gb, 0, none⟩ = some (.int .i64 b.ty) ∧ w'.cell? ⟨gb, 1, none⟩ = some (.int .i64 b.bits) ∧ w'.cell? ⟨gb, 2, none⟩ = some (.int .i64 b.base) ∧ w'.cell? ⟨gb, 3, none⟩ = some (.int .i64 b.size) ∧ w'.cell? ⟨gb, 4, none⟩ = some (.int .i64 b.used) ∧ w'.cell? ⟨gb, 5, none⟩ = some (.int .i64 b.frm) ∧ w'.cell? ⟨gb, 6, none⟩ = some (.int .i64 b.badge) ∧ w'.cell? ⟨gb, 7, none⟩ = some (.bool b.full) ∧ w'.cell? ⟨gb, 8, none⟩ = some (.int .u64 (b.word : Int)) ∧ w'.cell? ⟨gb, 9, none⟩ = some (.int .u64 (b.d0 : Int)) ∧ w'.cell? ⟨gb, 10, none⟩ = some (.int .u64 (b.d1 : Int)) ∧ w'.cell? ⟨gb, 11, none⟩ = some (.int .u64 (b.d2 : Int)) ∧ w'.cell? ⟨gb, 12, none⟩ = some (.int .u64 (b.d3 : Int)) ∧ Below v.heap.size v w' := by
  refine hc.mono ?_
  rintro e w' ⟨hq, hb⟩
  have k := below_on h hb
  obtain ⟨c0, c1, c2, c3, c4, c5, c6, c7, c8, c9, c10, c11, c12, _, _, _, _⟩ := hA.on k
  obtain ⟨e0, e1, e2, e3, e4, e5, e6, e7, e8, e9, e10, e11, e12, _, _, _, _⟩ := hB.on k
  exact ⟨⟨hq, hb⟩, c0, c1, c2, c3, c4, c5, c6, c7, c8, c9, c10, c11, c12, e0, e1, e2, e3, e4, e5, e6, e7, e8, e9, e10, e11, e12, k⟩

set_option maxHeartbeats 8000000 in
theorem tapart_walk (K : Cot) (a b : Tng) (w : World) : Calls Try.prog 6 #[a.val, b.val] w fun e w' => e = .returned (.bool true) ∧ Below w.heap.size w w' := by
  have hga := K.good a
  have hgb := K.good b
  obtain ⟨x, hx⟩ : ∃ x, a.eq b = x := ⟨_, rfl⟩
  have heq := fun w => hx ▸ teq26 a b w
  have hA : Tbx w (w.alloc (.cells #[.int .i64 a.ty, .int .i64 a.bits, .int .i64 a.base, .int .i64 a.size, .int .i64 a.used, .int .i64 a.frm, .int .i64 a.badge, .bool a.full, .int .u64 (a.word : Int), .int .u64 (a.d0 : Int), .int .u64 (a.d1 : Int), .int .u64 (a.d2 : Int), .int .u64 (a.d3 : Int)] 26)) w.heap.size a := Tbx.new w a 26
  have hB : Tbx (w.alloc (.cells #[.int .i64 a.ty, .int .i64 a.bits, .int .i64 a.base, .int .i64 a.size, .int .i64 a.used, .int .i64 a.frm, .int .i64 a.badge, .bool a.full, .int .u64 (a.word : Int), .int .u64 (a.d0 : Int), .int .u64 (a.d1 : Int), .int .u64 (a.d2 : Int), .int .u64 (a.d3 : Int)] 26)) ((w.alloc (.cells #[.int .i64 a.ty, .int .i64 a.bits, .int .i64 a.base, .int .i64 a.size, .int .i64 a.used, .int .i64 a.frm, .int .i64 a.badge, .bool a.full, .int .u64 (a.word : Int), .int .u64 (a.d0 : Int), .int .u64 (a.d1 : Int), .int .u64 (a.d2 : Int), .int .u64 (a.d3 : Int)] 26)).alloc (.cells #[.int .i64 b.ty, .int .i64 b.bits, .int .i64 b.base, .int .i64 b.size, .int .i64 b.used, .int .i64 b.frm, .int .i64 b.badge, .bool b.full, .int .u64 (b.word : Int), .int .u64 (b.d0 : Int), .int .u64 (b.d1 : Int), .int .u64 (b.d2 : Int), .int .u64 (b.d3 : Int)] 26)) (w.alloc (.cells #[.int .i64 a.ty, .int .i64 a.bits, .int .i64 a.base, .int .i64 a.size, .int .i64 a.used, .int .i64 a.frm, .int .i64 a.badge, .bool a.full, .int .u64 (a.word : Int), .int .u64 (a.d0 : Int), .int .u64 (a.d1 : Int), .int .u64 (a.d2 : Int), .int .u64 (a.d3 : Int)] 26)).heap.size b := Tbx.new _ b 26
  have hA2 := hA.on hB.old
  have hs : (w.alloc (.cells #[.int .i64 a.ty, .int .i64 a.bits, .int .i64 a.base, .int .i64 a.size, .int .i64 a.used, .int .i64 a.frm, .int .i64 a.badge, .bool a.full, .int .u64 (a.word : Int), .int .u64 (a.d0 : Int), .int .u64 (a.d1 : Int), .int .u64 (a.d2 : Int), .int .u64 (a.d3 : Int)] 26)).heap.size = w.heap.size + 1 := by simp
  rw [hs] at hB
  clear hA hs
  have hval := fun w => rputt_any a w
  clear hval
  rcases hg : a.good with _ | _
  · rw [hg] at hga
    have HGA := Lib.hid hga
    clear hx heq hgb hga hg hB
    unfold Tng.val at *
    go_enter Try.func6, Try.ntmps6
    go_wp2_with fail
    generalize (w.alloc (.cells #[.int .i64 a.ty, .int .i64 a.bits, .int .i64 a.base, .int .i64 a.size, .int .i64 a.used, .int .i64 a.frm, .int .i64 a.badge, .bool a.full, .int .u64 (a.word : Int), .int .u64 (a.d0 : Int), .int .u64 (a.d1 : Int), .int .u64 (a.d2 : Int), .int .u64 (a.d3 : Int)] 26)).alloc (.cells #[.int .i64 b.ty, .int .i64 b.bits, .int .i64 b.base, .int .i64 b.size, .int .i64 b.used, .int .i64 b.frm, .int .i64 b.badge, .bool b.full, .int .u64 (b.word : Int), .int .u64 (b.d0 : Int), .int .u64 (b.d1 : Int), .int .u64 (b.d2 : Int), .int .u64 (b.d3 : Int)] 26) = w1 at hA2 ⊢
    refine (awake_any K w1).mono ?_
    rintro e w2 ⟨rfl, hb⟩
    have HA := Lib.hid (hA2.on hb)
    clear hA2 hb
    obtain ⟨c0, c1, c2, c3, c4, c5, c6, c7, c8, c9, c10, c11, c12, _, _, _, _⟩ := HA.out
    go_wp2_with fail
    refine (HGA.out w2).mono ?_
    rintro e w3 ⟨rfl, hb⟩
    have HO := Lib.hid (HA.out.on hb).old
    clear hb HGA c0 c1 c2 c3 c4 c5 c6 c7 c8 c9 c10 c11 c12
    go_wp2
    go_ret
    exact ⟨rfl, HO.out⟩
  rcases hg2 : b.good with _ | _
  · rw [hg] at hga
    rw [hg2] at hgb
    have HGA := Lib.hid hga
    have HGB := Lib.hid hgb
    clear hx heq hgb hga hg hg2
    unfold Tng.val at *
    go_enter Try.func6, Try.ntmps6
    go_wp2_with fail
    generalize (w.alloc (.cells #[.int .i64 a.ty, .int .i64 a.bits, .int .i64 a.base, .int .i64 a.size, .int .i64 a.used, .int .i64 a.frm, .int .i64 a.badge, .bool a.full, .int .u64 (a.word : Int), .int .u64 (a.d0 : Int), .int .u64 (a.d1 : Int), .int .u64 (a.d2 : Int), .int .u64 (a.d3 : Int)] 26)).alloc (.cells #[.int .i64 b.ty, .int .i64 b.bits, .int .i64 b.base, .int .i64 b.size, .int .i64 b.used, .int .i64 b.frm, .int .i64 b.badge, .bool b.full, .int .u64 (b.word : Int), .int .u64 (b.d0 : Int), .int .u64 (b.d1 : Int), .int .u64 (b.d2 : Int), .int .u64 (b.d3 : Int)] 26) = w1 at hA2 hB ⊢
    refine (awake_any K w1).mono ?_
    rintro e w2 ⟨rfl, hb⟩
    have HA := Lib.hid (hA2.on hb)
    have HB := Lib.hid (hB.on hb)
    clear hA2 hB hb
    obtain ⟨c0, c1, c2, c3, c4, c5, c6, c7, c8, c9, c10, c11, c12, _, _, _, _⟩ := HA.out
    go_wp2_with fail
    refine (HGA.out w2).mono ?_
    rintro e w3 ⟨rfl, hb⟩
    have HA2 := Lib.hid (HA.out.on hb)
    have HB2 := Lib.hid (HB.out.on hb)
    clear hb HGA HA HB c0 c1 c2 c3 c4 c5 c6 c7 c8 c9 c10 c11 c12
    obtain ⟨e0, e1, e2, e3, e4, e5, e6, e7, e8, e9, e10, e11, e12, _, _, _, _⟩ := HB2.out
    go_wp2_with fail
    refine (HGB.out w3).mono ?_
    rintro e w4 ⟨rfl, hb⟩
    have HO := Lib.hid (HA2.out.on hb).old
    clear hb HGB e0 e1 e2 e3 e4 e5 e6 e7 e8 e9 e10 e11 e12
    go_wp2
    go_ret
    exact ⟨rfl, HO.out⟩
  · have HWB := Lib.hid ((tw_beq (tng_good.1 hg) (tng_good.1 hg2)).trans hx)
    have hpa : ∀ w, Calls Try.prog 10 #[a.val] w fun e w' => WListF w w' e a.words := fun w => by
      have := K.put a w
      rw [tput, if_pos hg] at this
      exact this
    have hpb : ∀ w, Calls Try.prog 10 #[b.val] w fun e w' => WListF w w' e b.words := fun w => by
      have := K.put b w
      rw [tput, if_pos hg2] at this
      exact this
    rw [hg] at hga
    rw [hg2] at hgb
    have HGA := Lib.hid hga
    have HGB := Lib.hid hgb
    have HPA := Lib.hid hpa
    have HPB := Lib.hid hpb
    clear hx hgb hga hg hg2 hpa hpb
    unfold Tng.val at *
    go_enter Try.func6, Try.ntmps6
    go_wp2_with fail
    generalize (w.alloc (.cells #[.int .i64 a.ty, .int .i64 a.bits, .int .i64 a.base, .int .i64 a.size, .int .i64 a.used, .int .i64 a.frm, .int .i64 a.badge, .bool a.full, .int .u64 (a.word : Int), .int .u64 (a.d0 : Int), .int .u64 (a.d1 : Int), .int .u64 (a.d2 : Int), .int .u64 (a.d3 : Int)] 26)).alloc (.cells #[.int .i64 b.ty, .int .i64 b.bits, .int .i64 b.base, .int .i64 b.size, .int .i64 b.used, .int .i64 b.frm, .int .i64 b.badge, .bool b.full, .int .u64 (b.word : Int), .int .u64 (b.d0 : Int), .int .u64 (b.d1 : Int), .int .u64 (b.d2 : Int), .int .u64 (b.d3 : Int)] 26) = w1 at hA2 hB ⊢
    refine (awake_any K w1).mono ?_
    rintro e w2 ⟨rfl, hb⟩
    have HA := Lib.hid (hA2.on hb)
    have HB := Lib.hid (hB.on hb)
    clear hA2 hB hb
    obtain ⟨c0, c1, c2, c3, c4, c5, c6, c7, c8, c9, c10, c11, c12, _, _, _, _⟩ := HA.out
    go_wp2_with fail
    refine (HGA.out w2).mono ?_
    rintro e w3 ⟨rfl, hb⟩
    have HA2 := Lib.hid (HA.out.on hb)
    have HB2 := Lib.hid (HB.out.on hb)
    clear hb HGA HA HB c0 c1 c2 c3 c4 c5 c6 c7 c8 c9 c10 c11 c12
    obtain ⟨e0, e1, e2, e3, e4, e5, e6, e7, e8, e9, e10, e11, e12, _, _, _, _⟩ := HB2.out
    go_wp2_with fail
    refine (HGB.out w3).mono ?_
    rintro e v ⟨rfl, hb⟩
    have HA3 := Lib.hid (HA2.out.on hb)
    have HB3 := Lib.hid (HB2.out.on hb)
    clear hb HGB HA2 HB2 e0 e1 e2 e3 e4 e5 e6 e7 e8 e9 e10 e11 e12
    obtain ⟨ga, hga⟩ : ∃ g, g = w.heap.size := ⟨_, rfl⟩
    obtain ⟨gb, hgb⟩ : ∃ g, g = w.heap.size + 1 := ⟨_, rfl⟩
    rw [← hga] at HA3
    rw [← hgb] at HB3
    have IA : Hid (∀ w1, Below v.heap.size v w1 → Calls Try.prog 10 #[.agg #[.int .i64 a.ty, .int .i64 a.bits, .int .i64 a.base, .int .i64 a.size, .int .i64 a.used, .int .i64 a.frm, .int .i64 a.badge, .bool a.full, .int .u64 (a.word : Int), .int .u64 (a.d0 : Int), .int .u64 (a.d1 : Int), .int .u64 (a.d2 : Int), .int .u64 (a.d3 : Int)]] w1 fun e w' => ((∃ B cb, e = .returned (.slice B 8 cb) ∧ WordsAt w' w'.heap.size B a.words) ∧ Below w1.heap.size w1 w') ∧ w'.cell? ⟨ga, 0, none⟩ = some (.int .i64 a.ty) ∧ w'.cell? ⟨ga, 1, none⟩ = some (.int .i64 a.bits) ∧ w'.cell? ⟨ga, 2, none⟩ = some (.int .i64 a.base) ∧ w'.cell? ⟨ga, 3, none⟩ = some (.int .i64 a.size) ∧ w'.cell? ⟨ga, 4, none⟩ = some (.int .i64 a.used) ∧ w'.cell? ⟨ga, 5, none⟩ = some (.int .i64 a.frm) ∧ w'.cell? ⟨ga, 6, none⟩ = some (.int .i64 a.badge) ∧ w'.cell? ⟨ga, 7, none⟩ = some (.bool a.full) ∧ w'.cell? ⟨ga, 8, none⟩ = some (.int .u64 (a.word : Int)) ∧ w'.cell? ⟨ga, 9, none⟩ = some (.int .u64 (a.d0 : Int)) ∧ w'.cell? ⟨ga, 10, none⟩ = some (.int .u64 (a.d1 : Int)) ∧ w'.cell? ⟨ga, 11, none⟩ = some (.int .u64 (a.d2 : Int)) ∧ w'.cell? ⟨ga, 12, none⟩ = some (.int .u64 (a.d3 : Int)) ∧ w'.cell? ⟨gb, 0, none⟩ = some (.int .i64 b.ty) ∧ w'.cell? ⟨gb, 1, none⟩ = some (.int .i64 b.bits) ∧ w'.cell? ⟨gb, 2, none⟩ = some (.int .i64 b.base) ∧ w'.cell? ⟨gb, 3, none⟩ = some (.int .i64 b.size) ∧ w'.cell? ⟨gb, 4, none⟩ = some (.int .i64 b.used) ∧ w'.cell? ⟨gb, 5, none⟩ = some (.int .i64 b.frm) ∧ w'.cell? ⟨gb, 6, none⟩ = some (.int .i64 b.badge) ∧ w'.cell? ⟨gb, 7, none⟩ = some (.bool b.full) ∧ w'.cell? ⟨gb, 8, none⟩ = some (.int .u64 (b.word : Int)) ∧ w'.cell? ⟨gb, 9, none⟩ = some (.int .u64 (b.d0 : Int)) ∧ w'.cell? ⟨gb, 10, none⟩ = some (.int .u64 (b.d1 : Int)) ∧ w'.cell? ⟨gb, 11, none⟩ = some (.int .u64 (b.d2 : Int)) ∧ w'.cell? ⟨gb, 12, none⟩ = some (.int .u64 (b.d3 : Int)) ∧ Below v.heap.size v w') := Lib.hid fun w1 h =>
      two_use HA3.out HB3.out h ((HPA.out w1).mono (by rintro e w' ⟨B, cb, rfl, _, hi, hb⟩; exact ⟨⟨B, cb, rfl, hi⟩, hb⟩))
    have IB : Hid (∀ w1, Below v.heap.size v w1 → Calls Try.prog 10 #[.agg #[.int .i64 b.ty, .int .i64 b.bits, .int .i64 b.base, .int .i64 b.size, .int .i64 b.used, .int .i64 b.frm, .int .i64 b.badge, .bool b.full, .int .u64 (b.word : Int), .int .u64 (b.d0 : Int), .int .u64 (b.d1 : Int), .int .u64 (b.d2 : Int), .int .u64 (b.d3 : Int)]] w1 fun e w' => ((∃ B cb, e = .returned (.slice B 8 cb) ∧ WordsAt w' w'.heap.size B b.words) ∧ Below w1.heap.size w1 w') ∧ w'.cell? ⟨ga, 0, none⟩ = some (.int .i64 a.ty) ∧ w'.cell? ⟨ga, 1, none⟩ = some (.int .i64 a.bits) ∧ w'.cell? ⟨ga, 2, none⟩ = some (.int .i64 a.base) ∧ w'.cell? ⟨ga, 3, none⟩ = some (.int .i64 a.size) ∧ w'.cell? ⟨ga, 4, none⟩ = some (.int .i64 a.used) ∧ w'.cell? ⟨ga, 5, none⟩ = some (.int .i64 a.frm) ∧ w'.cell? ⟨ga, 6, none⟩ = some (.int .i64 a.badge) ∧ w'.cell? ⟨ga, 7, none⟩ = some (.bool a.full) ∧ w'.cell? ⟨ga, 8, none⟩ = some (.int .u64 (a.word : Int)) ∧ w'.cell? ⟨ga, 9, none⟩ = some (.int .u64 (a.d0 : Int)) ∧ w'.cell? ⟨ga, 10, none⟩ = some (.int .u64 (a.d1 : Int)) ∧ w'.cell? ⟨ga, 11, none⟩ = some (.int .u64 (a.d2 : Int)) ∧ w'.cell? ⟨ga, 12, none⟩ = some (.int .u64 (a.d3 : Int)) ∧ w'.cell? ⟨gb, 0, none⟩ = some (.int .i64 b.ty) ∧ w'.cell? ⟨gb, 1, none⟩ = some (.int .i64 b.bits) ∧ w'.cell? ⟨gb, 2, none⟩ = some (.int .i64 b.base) ∧ w'.cell? ⟨gb, 3, none⟩ = some (.int .i64 b.size) ∧ w'.cell? ⟨gb, 4, none⟩ = some (.int .i64 b.used) ∧ w'.cell? ⟨gb, 5, none⟩ = some (.int .i64 b.frm) ∧ w'.cell? ⟨gb, 6, none⟩ = some (.int .i64 b.badge) ∧ w'.cell? ⟨gb, 7, none⟩ = some (.bool b.full) ∧ w'.cell? ⟨gb, 8, none⟩ = some (.int .u64 (b.word : Int)) ∧ w'.cell? ⟨gb, 9, none⟩ = some (.int .u64 (b.d0 : Int)) ∧ w'.cell? ⟨gb, 10, none⟩ = some (.int .u64 (b.d1 : Int)) ∧ w'.cell? ⟨gb, 11, none⟩ = some (.int .u64 (b.d2 : Int)) ∧ w'.cell? ⟨gb, 12, none⟩ = some (.int .u64 (b.d3 : Int)) ∧ Below v.heap.size v w') := Lib.hid fun w1 h =>
      two_use HA3.out HB3.out h ((HPB.out w1).mono (by rintro e w' ⟨B, cb, rfl, _, hi, hb⟩; exact ⟨⟨B, cb, rfl, hi⟩, hb⟩))
    have IW : Hid (∀ w1 B1 c1 B2 c2, Below v.heap.size v w1 → WordsAt w1 w1.heap.size B1 a.words → WordsAt w1 w1.heap.size B2 b.words → Calls Try.prog 19 #[.slice B1 8 c1, .slice B2 8 c2] w1 fun e w' => (e = .returned (.bool x) ∧ Below w1.heap.size w1 w') ∧ w'.cell? ⟨ga, 0, none⟩ = some (.int .i64 a.ty) ∧ w'.cell? ⟨ga, 1, none⟩ = some (.int .i64 a.bits) ∧ w'.cell? ⟨ga, 2, none⟩ = some (.int .i64 a.base) ∧ w'.cell? ⟨ga, 3, none⟩ = some (.int .i64 a.size) ∧ w'.cell? ⟨ga, 4, none⟩ = some (.int .i64 a.used) ∧ w'.cell? ⟨ga, 5, none⟩ = some (.int .i64 a.frm) ∧ w'.cell? ⟨ga, 6, none⟩ = some (.int .i64 a.badge) ∧ w'.cell? ⟨ga, 7, none⟩ = some (.bool a.full) ∧ w'.cell? ⟨ga, 8, none⟩ = some (.int .u64 (a.word : Int)) ∧ w'.cell? ⟨ga, 9, none⟩ = some (.int .u64 (a.d0 : Int)) ∧ w'.cell? ⟨ga, 10, none⟩ = some (.int .u64 (a.d1 : Int)) ∧ w'.cell? ⟨ga, 11, none⟩ = some (.int .u64 (a.d2 : Int)) ∧ w'.cell? ⟨ga, 12, none⟩ = some (.int .u64 (a.d3 : Int)) ∧ w'.cell? ⟨gb, 0, none⟩ = some (.int .i64 b.ty) ∧ w'.cell? ⟨gb, 1, none⟩ = some (.int .i64 b.bits) ∧ w'.cell? ⟨gb, 2, none⟩ = some (.int .i64 b.base) ∧ w'.cell? ⟨gb, 3, none⟩ = some (.int .i64 b.size) ∧ w'.cell? ⟨gb, 4, none⟩ = some (.int .i64 b.used) ∧ w'.cell? ⟨gb, 5, none⟩ = some (.int .i64 b.frm) ∧ w'.cell? ⟨gb, 6, none⟩ = some (.int .i64 b.badge) ∧ w'.cell? ⟨gb, 7, none⟩ = some (.bool b.full) ∧ w'.cell? ⟨gb, 8, none⟩ = some (.int .u64 (b.word : Int)) ∧ w'.cell? ⟨gb, 9, none⟩ = some (.int .u64 (b.d0 : Int)) ∧ w'.cell? ⟨gb, 10, none⟩ = some (.int .u64 (b.d1 : Int)) ∧ w'.cell? ⟨gb, 11, none⟩ = some (.int .u64 (b.d2 : Int)) ∧ w'.cell? ⟨gb, 12, none⟩ = some (.int .u64 (b.d3 : Int)) ∧ Below v.heap.size v w') := Lib.hid fun w1 B1 c1 B2 c2 h h1 h2 =>
      two_use HA3.out HB3.out h (twords_is (w := w1) (l := a.words) (m := b.words) rfl rfl (by decide) h1 h2 HWB.out)
    have hT : Below v.heap.size v v.drew := (below_self v).drew
    obtain ⟨c0, c1, c2, c3, c4, c5, c6, c7, c8, c9, c10, c11, c12, _, _, _, _⟩ := HA3.out.on hT
    obtain ⟨e0, e1, e2, e3, e4, e5, e6, e7, e8, e9, e10, e11, e12, _, _, _, _⟩ := HB3.out.on hT
    have HO := Lib.hid HA3.out.old
    clear HPA HPB HWB
    subst hga
    subst hgb
    go_wp2_with fail
    go_region_held3 (fun w' => w'.cell? ⟨w.heap.size, 0, none⟩ = some (.int .i64 a.ty) ∧ w'.cell? ⟨w.heap.size, 1, none⟩ = some (.int .i64 a.bits) ∧ w'.cell? ⟨w.heap.size, 2, none⟩ = some (.int .i64 a.base) ∧ w'.cell? ⟨w.heap.size, 3, none⟩ = some (.int .i64 a.size) ∧ w'.cell? ⟨w.heap.size, 4, none⟩ = some (.int .i64 a.used) ∧ w'.cell? ⟨w.heap.size, 5, none⟩ = some (.int .i64 a.frm) ∧ w'.cell? ⟨w.heap.size, 6, none⟩ = some (.int .i64 a.badge) ∧ w'.cell? ⟨w.heap.size, 7, none⟩ = some (.bool a.full) ∧ w'.cell? ⟨w.heap.size, 8, none⟩ = some (.int .u64 (a.word : Int)) ∧ w'.cell? ⟨w.heap.size, 9, none⟩ = some (.int .u64 (a.d0 : Int)) ∧ w'.cell? ⟨w.heap.size, 10, none⟩ = some (.int .u64 (a.d1 : Int)) ∧ w'.cell? ⟨w.heap.size, 11, none⟩ = some (.int .u64 (a.d2 : Int)) ∧ w'.cell? ⟨w.heap.size, 12, none⟩ = some (.int .u64 (a.d3 : Int)) ∧ w'.cell? ⟨w.heap.size + 1, 0, none⟩ = some (.int .i64 b.ty) ∧ w'.cell? ⟨w.heap.size + 1, 1, none⟩ = some (.int .i64 b.bits) ∧ w'.cell? ⟨w.heap.size + 1, 2, none⟩ = some (.int .i64 b.base) ∧ w'.cell? ⟨w.heap.size + 1, 3, none⟩ = some (.int .i64 b.size) ∧ w'.cell? ⟨w.heap.size + 1, 4, none⟩ = some (.int .i64 b.used) ∧ w'.cell? ⟨w.heap.size + 1, 5, none⟩ = some (.int .i64 b.frm) ∧ w'.cell? ⟨w.heap.size + 1, 6, none⟩ = some (.int .i64 b.badge) ∧ w'.cell? ⟨w.heap.size + 1, 7, none⟩ = some (.bool b.full) ∧ w'.cell? ⟨w.heap.size + 1, 8, none⟩ = some (.int .u64 (b.word : Int)) ∧ w'.cell? ⟨w.heap.size + 1, 9, none⟩ = some (.int .u64 (b.d0 : Int)) ∧ w'.cell? ⟨w.heap.size + 1, 10, none⟩ = some (.int .u64 (b.d1 : Int)) ∧ w'.cell? ⟨w.heap.size + 1, 11, none⟩ = some (.int .u64 (b.d2 : Int)) ∧ w'.cell? ⟨w.heap.size + 1, 12, none⟩ = some (.int .u64 (b.d3 : Int)) ∧ Below v.heap.size v w')
      (first | exact ⟨by with_reducible assumption, by with_reducible assumption, by with_reducible assumption, by with_reducible assumption, by with_reducible assumption, by with_reducible assumption, by with_reducible assumption, by with_reducible assumption, by with_reducible assumption, by with_reducible assumption, by with_reducible assumption, by with_reducible assumption, by with_reducible assumption, by with_reducible assumption, by with_reducible assumption, by with_reducible assumption, by with_reducible assumption, by with_reducible assumption, by with_reducible assumption, by with_reducible assumption, by with_reducible assumption, by with_reducible assumption, by with_reducible assumption, by with_reducible assumption, by with_reducible assumption, by with_reducible assumption, by with_reducible assumption⟩ | fail)
      (first
        | (go_at_call 10; ((with_reducible refine (IA.out _ (by with_reducible assumption)).mono ?_); rintro e xa ⟨⟨⟨Ba, qa, rfl, hia⟩, hba⟩, y0, y1, y2, y3, y4, y5, y6, y7, y8, y9, y10, y11, y12, y13, y14, y15, y16, y17, y18, y19, y20, y21, y22, y23, y24, y25, y26⟩))
        | (go_at_call 10; ((with_reducible refine (IB.out _ (by with_reducible assumption)).mono ?_); rintro e xb ⟨⟨⟨Bb, qb, rfl, hib⟩, hbb⟩, z0, z1, z2, z3, z4, z5, z6, z7, z8, z9, z10, z11, z12, z13, z14, z15, z16, z17, z18, z19, z20, z21, z22, z23, z24, z25, z26⟩))
        | (go_at_call 19; ((with_reducible refine (IW.out _ _ _ _ _ (by with_reducible assumption) (by first | with_reducible assumption | exact hia.grow hbb | fail) (by first | with_reducible assumption | exact hib.grow hba | fail)).mono ?_); rintro e xc ⟨⟨rfl, hbc⟩, u0', u1', u2', u3', u4', u5', u6', u7', u8', u9', u10', u11', u12', u13', u14', u15', u16', u17', u18', u19', u20', u21', u22', u23', u24', u25', u26'⟩))
        | fail)
    all_goals go_wp2
    all_goals go_ret
    all_goals exact ⟨by cases x <;> rfl, below_on HO.out u26'⟩
end Go.Proofs.Ytglibcmlophieaa
