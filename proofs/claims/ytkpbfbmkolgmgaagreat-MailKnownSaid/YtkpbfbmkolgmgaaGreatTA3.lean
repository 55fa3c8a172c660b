/-
  The texts Ie, If, Oe of this seat, one behind the other. Conditions: as each theorem says.
-/
import Derived.Test.YtkpbfbmkolgmgaaGreatTA2
namespace Go.Proofs.YtkpbfbmkolgmgaaGreat
open Go.RowKit

def tv (r : Option Tng) : Value := .tuple #[(r.getD .zero).val, .bool r.isSome]
def cv (r : Option Int) : Value := .tuple #[.int .i64 (r.getD 0), .bool r.isSome]
/-! ### PutThing -/
/-! ### Cost -/
end Go.Proofs.YtkpbfbmkolgmgaaGreat
namespace Go.Proofs.YtkpbfbmkolgmgaaGreat
open Go.RowKit

/-- thirteen cells of a block of the call's own are stored anew -/
theorem below_put {W w : World} {g : Nat} (h : Below W.heap.size W w) (hg : W.heap.size ≤ g) (a0 a1 a2 a3 a4 a5 a6 a7 a8 a9 a10 a11 a12 : Value) :
    Below W.heap.size W (((((((((((((w.setCell ⟨g, 0, none⟩ a0).setCell ⟨g, 1, none⟩ a1).setCell ⟨g, 2, none⟩ a2).setCell ⟨g, 3, none⟩ a3).setCell ⟨g, 4, none⟩ a4).setCell ⟨g, 5, none⟩ a5).setCell ⟨g, 6, none⟩ a6).setCell ⟨g, 7, none⟩ a7).setCell ⟨g, 8, none⟩ a8).setCell ⟨g, 9, none⟩ a9).setCell ⟨g, 10, none⟩ a10).setCell ⟨g, 11, none⟩ a11).setCell ⟨g, 12, none⟩ a12) :=
  (((((((((((((h.setCell hg _).setCell hg _).setCell hg _).setCell hg _).setCell hg _).setCell hg _).setCell hg _).setCell hg _).setCell hg _).setCell hg _).setCell hg _).setCell hg _).setCell hg _)
end Go.Proofs.YtkpbfbmkolgmgaaGreat
namespace Go.Proofs.YtkpbfbmkolgmgaaGreat
open Go.RowKit

theorem pcost_is {k s : Int} {w : World} {r : Option Int} (hr : tcost k s = r) : Calls Tryz.prog 95 #[.int .i64 k, .int .i64 s] w fun e w' => e = .returned (cv r) ∧ w' = w := by
  unfold tcost at hr
  by_cases k1 : k = 1
  · rw [if_pos k1] at hr
    subst k1
    rcases h1 : inr3 s 1 4096 with _ | _
    · rw [h1] at hr
      have H1 := Lib.hid h1
      clear h1
      go_enter Tryz.func95, Tryz.ntmps95
      go_wp2_with (go_at_call 154; (with_reducible refine (sizefits_at H1.out _).mono ?_); rintro e w' ⟨rfl, rfl⟩)
      go_ret2
      exact ⟨by rw [← hr]; rfl, rfl⟩
    · rw [h1] at hr
      have H1 := Lib.hid h1
      clear h1
      go_enter Tryz.func95, Tryz.ntmps95
      go_wp2_with (go_at_call 154; (with_reducible refine (sizefits_at H1.out _).mono ?_); rintro e w' ⟨rfl, rfl⟩)
      go_ret2
      exact ⟨by rw [← hr]; rfl, rfl⟩
  rw [if_neg k1] at hr
  by_cases k2 : k = 2
  · rw [if_pos k2] at hr
    subst k2
    rcases h1 : inr3 s 1 4 with _ | _
    · rw [h1] at hr
      have H1 := Lib.hid h1
      clear h1 k1
      go_enter Tryz.func95, Tryz.ntmps95
      go_wp2_with (go_at_call 155; (with_reducible refine (bitsfit_at H1.out _).mono ?_); rintro e w' ⟨rfl, rfl⟩)
      go_ret2
      exact ⟨by rw [← hr]; rfl, rfl⟩
    · rw [h1] at hr
      have H1 := Lib.hid h1
      clear h1 k1
      go_enter Tryz.func95, Tryz.ntmps95
      go_wp2_with (first | (go_at_call 155; (with_reducible refine (bitsfit_at H1.out _).mono ?_); rintro e w' ⟨rfl, rfl⟩) | (go_at_call 156; (with_reducible refine (tslots_at H1.out rfl _).mono ?_); rintro e w' ⟨rfl, rfl⟩))
      go_ret2
      exact ⟨by rw [← hr]; rfl, rfl⟩
  rw [if_neg k2] at hr
  by_cases k3 : k = 3
  · rw [if_pos k3] at hr
    subst k3
    go_enter Tryz.func95, Tryz.ntmps95
    go_wp2
    go_ret2
    exact ⟨by rw [← hr]; rfl, rfl⟩
  rw [if_neg k3] at hr
  by_cases k4 : k = 4
  · rw [if_pos k4] at hr
    subst k4
    go_enter Tryz.func95, Tryz.ntmps95
    go_wp2
    go_ret2
    exact ⟨by rw [← hr]; rfl, rfl⟩
  rw [if_neg k4] at hr
  by_cases k5 : k = 5
  · rw [if_pos k5] at hr
    subst k5
    go_enter Tryz.func95, Tryz.ntmps95
    go_wp2
    go_ret2
    exact ⟨by rw [← hr]; rfl, rfl⟩
  · rw [if_neg k5] at hr
    have e3 : (k == 3) = false := beq_eq_false_iff_ne.2 k3
    have e4 : (k == 4) = false := beq_eq_false_iff_ne.2 k4
    have e5 : (k == 5) = false := beq_eq_false_iff_ne.2 k5
    go_enter Tryz.func95, Tryz.ntmps95
    go_wp2
    go_ret2
    exact ⟨by rw [← hr]; rfl, rfl⟩
theorem pcost_no {k s : Int} {w : World} (h : tcost k s = none) : Calls Tryz.prog 95 #[.int .i64 k, .int .i64 s] w fun e w' => e = .returned (.tuple #[.int .i64 0, .bool false]) ∧ w' = w := pcost_is h
theorem pcost_yes {k s n : Int} {w : World} (h : tcost k s = some n) : Calls Tryz.prog 95 #[.int .i64 k, .int .i64 s] w fun e w' => e = .returned (.tuple #[.int .i64 n, .bool true]) ∧ w' = w := pcost_is h
set_option maxHeartbeats 4000000 in
theorem pnew1_none {s b : Int} {w : World} (h : tcost 1 s = none) :
    Calls Tryz.prog 131 #[.int .i64 1, .int .i64 s, .int .i64 b] w fun e w' => e = .returned (tv none) ∧ Below w.heap.size w w' := by
  have HC := Lib.hid h
  clear h
  go_enter Tryz.func131, Tryz.ntmps131
  go_wp2_with (go_at_call 95; (with_reducible refine (pcost_no HC.out).mono ?_); rintro e w' ⟨rfl, rfl⟩)
  go_returns
  exact ⟨rfl, below_alloc _ _⟩
set_option maxHeartbeats 4000000 in
theorem pnew1_false {s b : Int} {n : Int} {w : World} (h : tcost 1 s = some n) (hg : Tng.good (Tng.mk 1 0 0 s 0 0 0 false 0 0 0 0 0) = false) :
    Calls Tryz.prog 131 #[.int .i64 1, .int .i64 s, .int .i64 b] w fun e w' => e = .returned (tv none) ∧ Below w.heap.size w w' := by
  have HC := Lib.hid h
  have hr : ∀ w, Calls Tryz.prog 81 #[.agg #[.int .i64 1, .int .i64 0, .int .i64 0, .int .i64 s, .int .i64 0, .int .i64 0, .int .i64 0, .bool false, .int .u64 0, .int .u64 0, .int .u64 0, .int .u64 0, .int .u64 0]] w fun e w' => e = .returned (.bool false) ∧ Below w.heap.size w w' := fun w => by
    have := goodt_any (Tng.mk 1 0 0 s 0 0 0 false 0 0 0 0 0) w
    rw [hg] at this
    exact this
  have HR := Lib.hid hr
  clear h hg hr
  have hZ : Tbx w ((w.alloc (.cells #[.int .i64 0, .int .i64 0, .int .i64 0, .int .i64 0, .int .i64 0, .int .i64 0, .int .i64 0, .bool false, .int .u64 0, .int .u64 0, .int .u64 0, .int .u64 0, .int .u64 0] 67)).alloc (.cells #[.int .i64 1, .int .i64 0, .int .i64 0, .int .i64 s, .int .i64 0, .int .i64 0, .int .i64 0, .bool false, .int .u64 0, .int .u64 0, .int .u64 0, .int .u64 0, .int .u64 0] 67)) w.heap.size .zero := (Tbx.new w .zero 67).on (below_alloc _ _)
  have hT : Tbx (w.alloc (.cells #[.int .i64 0, .int .i64 0, .int .i64 0, .int .i64 0, .int .i64 0, .int .i64 0, .int .i64 0, .bool false, .int .u64 0, .int .u64 0, .int .u64 0, .int .u64 0, .int .u64 0] 67)) ((w.alloc (.cells #[.int .i64 0, .int .i64 0, .int .i64 0, .int .i64 0, .int .i64 0, .int .i64 0, .int .i64 0, .bool false, .int .u64 0, .int .u64 0, .int .u64 0, .int .u64 0, .int .u64 0] 67)).alloc (.cells #[.int .i64 1, .int .i64 0, .int .i64 0, .int .i64 s, .int .i64 0, .int .i64 0, .int .i64 0, .bool false, .int .u64 0, .int .u64 0, .int .u64 0, .int .u64 0, .int .u64 0] 67)) (w.alloc (.cells #[.int .i64 0, .int .i64 0, .int .i64 0, .int .i64 0, .int .i64 0, .int .i64 0, .int .i64 0, .bool false, .int .u64 0, .int .u64 0, .int .u64 0, .int .u64 0, .int .u64 0] 67)).heap.size (Tng.mk 1 0 0 s 0 0 0 false 0 0 0 0 0) := Tbx.new _ (Tng.mk 1 0 0 s 0 0 0 false 0 0 0 0 0) 67
  have hs : (w.alloc (.cells #[.int .i64 0, .int .i64 0, .int .i64 0, .int .i64 0, .int .i64 0, .int .i64 0, .int .i64 0, .bool false, .int .u64 0, .int .u64 0, .int .u64 0, .int .u64 0, .int .u64 0] 67)).heap.size = w.heap.size + 1 := by simp
  rw [hs] at hT
  clear hs
  go_enter Tryz.func131, Tryz.ntmps131
  go_wp2_with (go_at_call 95; (with_reducible refine (pcost_yes HC.out).mono ?_); rintro e w' ⟨rfl, rfl⟩)
  generalize (w.alloc (.cells #[.int .i64 0, .int .i64 0, .int .i64 0, .int .i64 0, .int .i64 0, .int .i64 0, .int .i64 0, .bool false, .int .u64 0, .int .u64 0, .int .u64 0, .int .u64 0, .int .u64 0] 67)).alloc (.cells #[.int .i64 1, .int .i64 0, .int .i64 0, .int .i64 s, .int .i64 0, .int .i64 0, .int .i64 0, .bool false, .int .u64 0, .int .u64 0, .int .u64 0, .int .u64 0, .int .u64 0] 67) = w1 at hZ hT ⊢
  refine (HR.out w1).mono ?_
  rintro e w2 ⟨rfl, hb⟩
  have hZ2 := hZ.on hb
  have hT2 := hT.on hb
  have HO := Lib.hid hZ2.old
  obtain ⟨c0, c1, c2, c3, c4, c5, c6, c7, c8, c9, c10, c11, c12, hf, _, _, lt⟩ := hZ2
  obtain ⟨e0, e1, e2, e3, e4, e5, e6, e7, e8, e9, e10, e11, e12, _, _, _, lt2⟩ := hT2
  simp only [Tng.zero, Tng.of, Int.ofNat_zero] at c0 c1 c2 c3 c4 c5 c6 c7 c8 c9 c10 c11 c12 e0 e1 e2 e3 e4 e5 e6 e7 e8 e9 e10 e11 e12
  have f0 := hf 0
  have f1 := hf 1
  have f2 := hf 2
  have f3 := hf 3
  have f4 := hf 4
  have f5 := hf 5
  have f6 := hf 6
  have f7 := hf 7
  have f8 := hf 8
  have f9 := hf 9
  have f10 := hf 10
  have f11 := hf 11
  have f12 := hf 12
  clear hZ hT hb HR hf
  go_wp2
  refine bodyPost_ret (by simp [results, Tryz.results131, go_sem, c0, c1, c2, c3, c4, c5, c6, c7, c8, c9, c10, c11, c12]; rfl) rfl ?_
  exact ⟨rfl, below_put HO.out (Nat.le_refl _) _ _ _ _ _ _ _ _ _ _ _ _ _⟩
set_option maxHeartbeats 4000000 in
theorem pnew1_true {s b : Int} {n : Int} {w : World} (h : tcost 1 s = some n) (hg : Tng.good (Tng.mk 1 0 0 s 0 0 0 false 0 0 0 0 0) = true) :
    Calls Tryz.prog 131 #[.int .i64 1, .int .i64 s, .int .i64 b] w fun e w' => e = .returned (tv (some (Tng.mk 1 0 0 s 0 0 0 false 0 0 0 0 0))) ∧ Below w.heap.size w w' := by
  have HC := Lib.hid h
  have hr : ∀ w, Calls Tryz.prog 81 #[.agg #[.int .i64 1, .int .i64 0, .int .i64 0, .int .i64 s, .int .i64 0, .int .i64 0, .int .i64 0, .bool false, .int .u64 0, .int .u64 0, .int .u64 0, .int .u64 0, .int .u64 0]] w fun e w' => e = .returned (.bool true) ∧ Below w.heap.size w w' := fun w => by
    have := goodt_any (Tng.mk 1 0 0 s 0 0 0 false 0 0 0 0 0) w
    rw [hg] at this
    exact this
  have HR := Lib.hid hr
  clear h hg hr
  have hZ : Tbx w ((w.alloc (.cells #[.int .i64 0, .int .i64 0, .int .i64 0, .int .i64 0, .int .i64 0, .int .i64 0, .int .i64 0, .bool false, .int .u64 0, .int .u64 0, .int .u64 0, .int .u64 0, .int .u64 0] 67)).alloc (.cells #[.int .i64 1, .int .i64 0, .int .i64 0, .int .i64 s, .int .i64 0, .int .i64 0, .int .i64 0, .bool false, .int .u64 0, .int .u64 0, .int .u64 0, .int .u64 0, .int .u64 0] 67)) w.heap.size .zero := (Tbx.new w .zero 67).on (below_alloc _ _)
  have hT : Tbx (w.alloc (.cells #[.int .i64 0, .int .i64 0, .int .i64 0, .int .i64 0, .int .i64 0, .int .i64 0, .int .i64 0, .bool false, .int .u64 0, .int .u64 0, .int .u64 0, .int .u64 0, .int .u64 0] 67)) ((w.alloc (.cells #[.int .i64 0, .int .i64 0, .int .i64 0, .int .i64 0, .int .i64 0, .int .i64 0, .int .i64 0, .bool false, .int .u64 0, .int .u64 0, .int .u64 0, .int .u64 0, .int .u64 0] 67)).alloc (.cells #[.int .i64 1, .int .i64 0, .int .i64 0, .int .i64 s, .int .i64 0, .int .i64 0, .int .i64 0, .bool false, .int .u64 0, .int .u64 0, .int .u64 0, .int .u64 0, .int .u64 0] 67)) (w.alloc (.cells #[.int .i64 0, .int .i64 0, .int .i64 0, .int .i64 0, .int .i64 0, .int .i64 0, .int .i64 0, .bool false, .int .u64 0, .int .u64 0, .int .u64 0, .int .u64 0, .int .u64 0] 67)).heap.size (Tng.mk 1 0 0 s 0 0 0 false 0 0 0 0 0) := Tbx.new _ (Tng.mk 1 0 0 s 0 0 0 false 0 0 0 0 0) 67
  have hs : (w.alloc (.cells #[.int .i64 0, .int .i64 0, .int .i64 0, .int .i64 0, .int .i64 0, .int .i64 0, .int .i64 0, .bool false, .int .u64 0, .int .u64 0, .int .u64 0, .int .u64 0, .int .u64 0] 67)).heap.size = w.heap.size + 1 := by simp
  rw [hs] at hT
  clear hs
  go_enter Tryz.func131, Tryz.ntmps131
  go_wp2_with (go_at_call 95; (with_reducible refine (pcost_yes HC.out).mono ?_); rintro e w' ⟨rfl, rfl⟩)
  generalize (w.alloc (.cells #[.int .i64 0, .int .i64 0, .int .i64 0, .int .i64 0, .int .i64 0, .int .i64 0, .int .i64 0, .bool false, .int .u64 0, .int .u64 0, .int .u64 0, .int .u64 0, .int .u64 0] 67)).alloc (.cells #[.int .i64 1, .int .i64 0, .int .i64 0, .int .i64 s, .int .i64 0, .int .i64 0, .int .i64 0, .bool false, .int .u64 0, .int .u64 0, .int .u64 0, .int .u64 0, .int .u64 0] 67) = w1 at hZ hT ⊢
  refine (HR.out w1).mono ?_
  rintro e w2 ⟨rfl, hb⟩
  have hZ2 := hZ.on hb
  have hT2 := hT.on hb
  have HO := Lib.hid hZ2.old
  obtain ⟨c0, c1, c2, c3, c4, c5, c6, c7, c8, c9, c10, c11, c12, hf, _, _, lt⟩ := hZ2
  obtain ⟨e0, e1, e2, e3, e4, e5, e6, e7, e8, e9, e10, e11, e12, _, _, _, lt2⟩ := hT2
  simp only [Tng.zero, Tng.of, Int.ofNat_zero] at c0 c1 c2 c3 c4 c5 c6 c7 c8 c9 c10 c11 c12 e0 e1 e2 e3 e4 e5 e6 e7 e8 e9 e10 e11 e12
  have f0 := hf 0
  have f1 := hf 1
  have f2 := hf 2
  have f3 := hf 3
  have f4 := hf 4
  have f5 := hf 5
  have f6 := hf 6
  have f7 := hf 7
  have f8 := hf 8
  have f9 := hf 9
  have f10 := hf 10
  have f11 := hf 11
  have f12 := hf 12
  clear hZ hT hb HR hf
  go_wp2
  refine bodyPost_ret (by simp [results, Tryz.results131, go_sem, c0, c1, c2, c3, c4, c5, c6, c7, c8, c9, c10, c11, c12]; rfl) rfl ?_
  exact ⟨rfl, below_put HO.out (Nat.le_refl _) _ _ _ _ _ _ _ _ _ _ _ _ _⟩
set_option maxHeartbeats 4000000 in
theorem pnew2_none {s b : Int} {w : World} (h : tcost 2 s = none) :
    Calls Tryz.prog 131 #[.int .i64 2, .int .i64 s, .int .i64 b] w fun e w' => e = .returned (tv none) ∧ Below w.heap.size w w' := by
  have HC := Lib.hid h
  clear h
  go_enter Tryz.func131, Tryz.ntmps131
  go_wp2_with (go_at_call 95; (with_reducible refine (pcost_no HC.out).mono ?_); rintro e w' ⟨rfl, rfl⟩)
  go_returns
  exact ⟨rfl, below_alloc _ _⟩
set_option maxHeartbeats 4000000 in
theorem pnew2_false {s b : Int} {n : Int} {w : World} (h : tcost 2 s = some n) (hg : Tng.good (Tng.mk 2 s b 0 0 0 0 false 0 0 0 0 0) = false) :
    Calls Tryz.prog 131 #[.int .i64 2, .int .i64 s, .int .i64 b] w fun e w' => e = .returned (tv none) ∧ Below w.heap.size w w' := by
  have HC := Lib.hid h
  have hr : ∀ w, Calls Tryz.prog 81 #[.agg #[.int .i64 2, .int .i64 s, .int .i64 b, .int .i64 0, .int .i64 0, .int .i64 0, .int .i64 0, .bool false, .int .u64 0, .int .u64 0, .int .u64 0, .int .u64 0, .int .u64 0]] w fun e w' => e = .returned (.bool false) ∧ Below w.heap.size w w' := fun w => by
    have := goodt_any (Tng.mk 2 s b 0 0 0 0 false 0 0 0 0 0) w
    rw [hg] at this
    exact this
  have HR := Lib.hid hr
  clear h hg hr
  have hZ : Tbx w ((w.alloc (.cells #[.int .i64 0, .int .i64 0, .int .i64 0, .int .i64 0, .int .i64 0, .int .i64 0, .int .i64 0, .bool false, .int .u64 0, .int .u64 0, .int .u64 0, .int .u64 0, .int .u64 0] 67)).alloc (.cells #[.int .i64 2, .int .i64 s, .int .i64 b, .int .i64 0, .int .i64 0, .int .i64 0, .int .i64 0, .bool false, .int .u64 0, .int .u64 0, .int .u64 0, .int .u64 0, .int .u64 0] 67)) w.heap.size .zero := (Tbx.new w .zero 67).on (below_alloc _ _)
  have hT : Tbx (w.alloc (.cells #[.int .i64 0, .int .i64 0, .int .i64 0, .int .i64 0, .int .i64 0, .int .i64 0, .int .i64 0, .bool false, .int .u64 0, .int .u64 0, .int .u64 0, .int .u64 0, .int .u64 0] 67)) ((w.alloc (.cells #[.int .i64 0, .int .i64 0, .int .i64 0, .int .i64 0, .int .i64 0, .int .i64 0, .int .i64 0, .bool false, .int .u64 0, .int .u64 0, .int .u64 0, .int .u64 0, .int .u64 0] 67)).alloc (.cells #[.int .i64 2, .int .i64 s, .int .i64 b, .int .i64 0, .int .i64 0, .int .i64 0, .int .i64 0, .bool false, .int .u64 0, .int .u64 0, .int .u64 0, .int .u64 0, .int .u64 0] 67)) (w.alloc (.cells #[.int .i64 0, .int .i64 0, .int .i64 0, .int .i64 0, .int .i64 0, .int .i64 0, .int .i64 0, .bool false, .int .u64 0, .int .u64 0, .int .u64 0, .int .u64 0, .int .u64 0] 67)).heap.size (Tng.mk 2 s b 0 0 0 0 false 0 0 0 0 0) := Tbx.new _ (Tng.mk 2 s b 0 0 0 0 false 0 0 0 0 0) 67
  have hs : (w.alloc (.cells #[.int .i64 0, .int .i64 0, .int .i64 0, .int .i64 0, .int .i64 0, .int .i64 0, .int .i64 0, .bool false, .int .u64 0, .int .u64 0, .int .u64 0, .int .u64 0, .int .u64 0] 67)).heap.size = w.heap.size + 1 := by simp
  rw [hs] at hT
  clear hs
  go_enter Tryz.func131, Tryz.ntmps131
  go_wp2_with (go_at_call 95; (with_reducible refine (pcost_yes HC.out).mono ?_); rintro e w' ⟨rfl, rfl⟩)
  generalize (w.alloc (.cells #[.int .i64 0, .int .i64 0, .int .i64 0, .int .i64 0, .int .i64 0, .int .i64 0, .int .i64 0, .bool false, .int .u64 0, .int .u64 0, .int .u64 0, .int .u64 0, .int .u64 0] 67)).alloc (.cells #[.int .i64 2, .int .i64 s, .int .i64 b, .int .i64 0, .int .i64 0, .int .i64 0, .int .i64 0, .bool false, .int .u64 0, .int .u64 0, .int .u64 0, .int .u64 0, .int .u64 0] 67) = w1 at hZ hT ⊢
  refine (HR.out w1).mono ?_
  rintro e w2 ⟨rfl, hb⟩
  have hZ2 := hZ.on hb
  have hT2 := hT.on hb
  have HO := Lib.hid hZ2.old
  obtain ⟨c0, c1, c2, c3, c4, c5, c6, c7, c8, c9, c10, c11, c12, hf, _, _, lt⟩ := hZ2
  obtain ⟨e0, e1, e2, e3, e4, e5, e6, e7, e8, e9, e10, e11, e12, _, _, _, lt2⟩ := hT2
  simp only [Tng.zero, Tng.of, Int.ofNat_zero] at c0 c1 c2 c3 c4 c5 c6 c7 c8 c9 c10 c11 c12 e0 e1 e2 e3 e4 e5 e6 e7 e8 e9 e10 e11 e12
  have f0 := hf 0
  have f1 := hf 1
  have f2 := hf 2
  have f3 := hf 3
  have f4 := hf 4
  have f5 := hf 5
  have f6 := hf 6
  have f7 := hf 7
  have f8 := hf 8
  have f9 := hf 9
  have f10 := hf 10
  have f11 := hf 11
  have f12 := hf 12
  clear hZ hT hb HR hf
  go_wp2
  refine bodyPost_ret (by simp [results, Tryz.results131, go_sem, c0, c1, c2, c3, c4, c5, c6, c7, c8, c9, c10, c11, c12]; rfl) rfl ?_
  exact ⟨rfl, below_put HO.out (Nat.le_refl _) _ _ _ _ _ _ _ _ _ _ _ _ _⟩
set_option maxHeartbeats 4000000 in
theorem pnew2_true {s b : Int} {n : Int} {w : World} (h : tcost 2 s = some n) (hg : Tng.good (Tng.mk 2 s b 0 0 0 0 false 0 0 0 0 0) = true) :
    Calls Tryz.prog 131 #[.int .i64 2, .int .i64 s, .int .i64 b] w fun e w' => e = .returned (tv (some (Tng.mk 2 s b 0 0 0 0 false 0 0 0 0 0))) ∧ Below w.heap.size w w' := by
  have HC := Lib.hid h
  have hr : ∀ w, Calls Tryz.prog 81 #[.agg #[.int .i64 2, .int .i64 s, .int .i64 b, .int .i64 0, .int .i64 0, .int .i64 0, .int .i64 0, .bool false, .int .u64 0, .int .u64 0, .int .u64 0, .int .u64 0, .int .u64 0]] w fun e w' => e = .returned (.bool true) ∧ Below w.heap.size w w' := fun w => by
    have := goodt_any (Tng.mk 2 s b 0 0 0 0 false 0 0 0 0 0) w
    rw [hg] at this
    exact this
  have HR := Lib.hid hr
  clear h hg hr
  have hZ : Tbx w ((w.alloc (.cells #[.int .i64 0, .int .i64 0, .int .i64 0, .int .i64 0, .int .i64 0, .int .i64 0, .int .i64 0, .bool false, .int .u64 0, .int .u64 0, .int .u64 0, .int .u64 0, .int .u64 0] 67)).alloc (.cells #[.int .i64 2, .int .i64 s, .int .i64 b, .int .i64 0, .int .i64 0, .int .i64 0, .int .i64 0, .bool false, .int .u64 0, .int .u64 0, .int .u64 0, .int .u64 0, .int .u64 0] 67)) w.heap.size .zero := (Tbx.new w .zero 67).on (below_alloc _ _)
  have hT : Tbx (w.alloc (.cells #[.int .i64 0, .int .i64 0, .int .i64 0, .int .i64 0, .int .i64 0, .int .i64 0, .int .i64 0, .bool false, .int .u64 0, .int .u64 0, .int .u64 0, .int .u64 0, .int .u64 0] 67)) ((w.alloc (.cells #[.int .i64 0, .int .i64 0, .int .i64 0, .int .i64 0, .int .i64 0, .int .i64 0, .int .i64 0, .bool false, .int .u64 0, .int .u64 0, .int .u64 0, .int .u64 0, .int .u64 0] 67)).alloc (.cells #[.int .i64 2, .int .i64 s, .int .i64 b, .int .i64 0, .int .i64 0, .int .i64 0, .int .i64 0, .bool false, .int .u64 0, .int .u64 0, .int .u64 0, .int .u64 0, .int .u64 0] 67)) (w.alloc (.cells #[.int .i64 0, .int .i64 0, .int .i64 0, .int .i64 0, .int .i64 0, .int .i64 0, .int .i64 0, .bool false, .int .u64 0, .int .u64 0, .int .u64 0, .int .u64 0, .int .u64 0] 67)).heap.size (Tng.mk 2 s b 0 0 0 0 false 0 0 0 0 0) := Tbx.new _ (Tng.mk 2 s b 0 0 0 0 false 0 0 0 0 0) 67
  have hs : (w.alloc (.cells #[.int .i64 0, .int .i64 0, .int .i64 0, .int .i64 0, .int .i64 0, .int .i64 0, .int .i64 0, .bool false, .int .u64 0, .int .u64 0, .int .u64 0, .int .u64 0, .int .u64 0] 67)).heap.size = w.heap.size + 1 := by simp
  rw [hs] at hT
  clear hs
  go_enter Tryz.func131, Tryz.ntmps131
  go_wp2_with (go_at_call 95; (with_reducible refine (pcost_yes HC.out).mono ?_); rintro e w' ⟨rfl, rfl⟩)
  generalize (w.alloc (.cells #[.int .i64 0, .int .i64 0, .int .i64 0, .int .i64 0, .int .i64 0, .int .i64 0, .int .i64 0, .bool false, .int .u64 0, .int .u64 0, .int .u64 0, .int .u64 0, .int .u64 0] 67)).alloc (.cells #[.int .i64 2, .int .i64 s, .int .i64 b, .int .i64 0, .int .i64 0, .int .i64 0, .int .i64 0, .bool false, .int .u64 0, .int .u64 0, .int .u64 0, .int .u64 0, .int .u64 0] 67) = w1 at hZ hT ⊢
  refine (HR.out w1).mono ?_
  rintro e w2 ⟨rfl, hb⟩
  have hZ2 := hZ.on hb
  have hT2 := hT.on hb
  have HO := Lib.hid hZ2.old
  obtain ⟨c0, c1, c2, c3, c4, c5, c6, c7, c8, c9, c10, c11, c12, hf, _, _, lt⟩ := hZ2
  obtain ⟨e0, e1, e2, e3, e4, e5, e6, e7, e8, e9, e10, e11, e12, _, _, _, lt2⟩ := hT2
  simp only [Tng.zero, Tng.of, Int.ofNat_zero] at c0 c1 c2 c3 c4 c5 c6 c7 c8 c9 c10 c11 c12 e0 e1 e2 e3 e4 e5 e6 e7 e8 e9 e10 e11 e12
  have f0 := hf 0
  have f1 := hf 1
  have f2 := hf 2
  have f3 := hf 3
  have f4 := hf 4
  have f5 := hf 5
  have f6 := hf 6
  have f7 := hf 7
  have f8 := hf 8
  have f9 := hf 9
  have f10 := hf 10
  have f11 := hf 11
  have f12 := hf 12
  clear hZ hT hb HR hf
  go_wp2
  refine bodyPost_ret (by simp [results, Tryz.results131, go_sem, c0, c1, c2, c3, c4, c5, c6, c7, c8, c9, c10, c11, c12]; rfl) rfl ?_
  exact ⟨rfl, below_put HO.out (Nat.le_refl _) _ _ _ _ _ _ _ _ _ _ _ _ _⟩
set_option maxHeartbeats 4000000 in
theorem pnewx_none {k s b : Int} {w : World} (h : tcost k s = none) (_k1 : ¬ k = 1) (_k2 : ¬ k = 2) :
    Calls Tryz.prog 131 #[.int .i64 k, .int .i64 s, .int .i64 b] w fun e w' => e = .returned (tv none) ∧ Below w.heap.size w w' := by
  have HC := Lib.hid h
  clear h
  go_enter Tryz.func131, Tryz.ntmps131
  go_wp2_with (go_at_call 95; (with_reducible refine (pcost_no HC.out).mono ?_); rintro e w' ⟨rfl, rfl⟩)
  go_returns
  exact ⟨rfl, below_alloc _ _⟩
set_option maxHeartbeats 4000000 in
theorem pnewx_false {k s b : Int} {n : Int} {w : World} (h : tcost k s = some n) (hg : Tng.good (Tng.mk k 0 0 0 0 0 0 false 0 0 0 0 0) = false) (k1 : ¬ k = 1) (k2 : ¬ k = 2) :
    Calls Tryz.prog 131 #[.int .i64 k, .int .i64 s, .int .i64 b] w fun e w' => e = .returned (tv none) ∧ Below w.heap.size w w' := by
  have HC := Lib.hid h
  have hr : ∀ w, Calls Tryz.prog 81 #[.agg #[.int .i64 k, .int .i64 0, .int .i64 0, .int .i64 0, .int .i64 0, .int .i64 0, .int .i64 0, .bool false, .int .u64 0, .int .u64 0, .int .u64 0, .int .u64 0, .int .u64 0]] w fun e w' => e = .returned (.bool false) ∧ Below w.heap.size w w' := fun w => by
    have := goodt_any (Tng.mk k 0 0 0 0 0 0 false 0 0 0 0 0) w
    rw [hg] at this
    exact this
  have HR := Lib.hid hr
  clear h hg hr
  have hZ : Tbx w ((w.alloc (.cells #[.int .i64 0, .int .i64 0, .int .i64 0, .int .i64 0, .int .i64 0, .int .i64 0, .int .i64 0, .bool false, .int .u64 0, .int .u64 0, .int .u64 0, .int .u64 0, .int .u64 0] 67)).alloc (.cells #[.int .i64 k, .int .i64 0, .int .i64 0, .int .i64 0, .int .i64 0, .int .i64 0, .int .i64 0, .bool false, .int .u64 0, .int .u64 0, .int .u64 0, .int .u64 0, .int .u64 0] 67)) w.heap.size .zero := (Tbx.new w .zero 67).on (below_alloc _ _)
  have hT : Tbx (w.alloc (.cells #[.int .i64 0, .int .i64 0, .int .i64 0, .int .i64 0, .int .i64 0, .int .i64 0, .int .i64 0, .bool false, .int .u64 0, .int .u64 0, .int .u64 0, .int .u64 0, .int .u64 0] 67)) ((w.alloc (.cells #[.int .i64 0, .int .i64 0, .int .i64 0, .int .i64 0, .int .i64 0, .int .i64 0, .int .i64 0, .bool false, .int .u64 0, .int .u64 0, .int .u64 0, .int .u64 0, .int .u64 0] 67)).alloc (.cells #[.int .i64 k, .int .i64 0, .int .i64 0, .int .i64 0, .int .i64 0, .int .i64 0, .int .i64 0, .bool false, .int .u64 0, .int .u64 0, .int .u64 0, .int .u64 0, .int .u64 0] 67)) (w.alloc (.cells #[.int .i64 0, .int .i64 0, .int .i64 0, .int .i64 0, .int .i64 0, .int .i64 0, .int .i64 0, .bool false, .int .u64 0, .int .u64 0, .int .u64 0, .int .u64 0, .int .u64 0] 67)).heap.size (Tng.mk k 0 0 0 0 0 0 false 0 0 0 0 0) := Tbx.new _ (Tng.mk k 0 0 0 0 0 0 false 0 0 0 0 0) 67
  have hs : (w.alloc (.cells #[.int .i64 0, .int .i64 0, .int .i64 0, .int .i64 0, .int .i64 0, .int .i64 0, .int .i64 0, .bool false, .int .u64 0, .int .u64 0, .int .u64 0, .int .u64 0, .int .u64 0] 67)).heap.size = w.heap.size + 1 := by simp
  rw [hs] at hT
  clear hs
  go_enter Tryz.func131, Tryz.ntmps131
  go_wp2_with (go_at_call 95; (with_reducible refine (pcost_yes HC.out).mono ?_); rintro e w' ⟨rfl, rfl⟩)
  generalize (w.alloc (.cells #[.int .i64 0, .int .i64 0, .int .i64 0, .int .i64 0, .int .i64 0, .int .i64 0, .int .i64 0, .bool false, .int .u64 0, .int .u64 0, .int .u64 0, .int .u64 0, .int .u64 0] 67)).alloc (.cells #[.int .i64 k, .int .i64 0, .int .i64 0, .int .i64 0, .int .i64 0, .int .i64 0, .int .i64 0, .bool false, .int .u64 0, .int .u64 0, .int .u64 0, .int .u64 0, .int .u64 0] 67) = w1 at hZ hT ⊢
  refine (HR.out w1).mono ?_
  rintro e w2 ⟨rfl, hb⟩
  have hZ2 := hZ.on hb
  have hT2 := hT.on hb
  have HO := Lib.hid hZ2.old
  obtain ⟨c0, c1, c2, c3, c4, c5, c6, c7, c8, c9, c10, c11, c12, hf, _, _, lt⟩ := hZ2
  obtain ⟨e0, e1, e2, e3, e4, e5, e6, e7, e8, e9, e10, e11, e12, _, _, _, lt2⟩ := hT2
  simp only [Tng.zero, Tng.of, Int.ofNat_zero] at c0 c1 c2 c3 c4 c5 c6 c7 c8 c9 c10 c11 c12 e0 e1 e2 e3 e4 e5 e6 e7 e8 e9 e10 e11 e12
  have f0 := hf 0
  have f1 := hf 1
  have f2 := hf 2
  have f3 := hf 3
  have f4 := hf 4
  have f5 := hf 5
  have f6 := hf 6
  have f7 := hf 7
  have f8 := hf 8
  have f9 := hf 9
  have f10 := hf 10
  have f11 := hf 11
  have f12 := hf 12
  clear hZ hT hb HR hf
  go_wp2
  refine bodyPost_ret (by simp [results, Tryz.results131, go_sem, c0, c1, c2, c3, c4, c5, c6, c7, c8, c9, c10, c11, c12]; rfl) rfl ?_
  exact ⟨rfl, below_put HO.out (Nat.le_refl _) _ _ _ _ _ _ _ _ _ _ _ _ _⟩
set_option maxHeartbeats 4000000 in
theorem pnewx_true {k s b : Int} {n : Int} {w : World} (h : tcost k s = some n) (hg : Tng.good (Tng.mk k 0 0 0 0 0 0 false 0 0 0 0 0) = true) (k1 : ¬ k = 1) (k2 : ¬ k = 2) :
    Calls Tryz.prog 131 #[.int .i64 k, .int .i64 s, .int .i64 b] w fun e w' => e = .returned (tv (some (Tng.mk k 0 0 0 0 0 0 false 0 0 0 0 0))) ∧ Below w.heap.size w w' := by
  have HC := Lib.hid h
  have hr : ∀ w, Calls Tryz.prog 81 #[.agg #[.int .i64 k, .int .i64 0, .int .i64 0, .int .i64 0, .int .i64 0, .int .i64 0, .int .i64 0, .bool false, .int .u64 0, .int .u64 0, .int .u64 0, .int .u64 0, .int .u64 0]] w fun e w' => e = .returned (.bool true) ∧ Below w.heap.size w w' := fun w => by
    have := goodt_any (Tng.mk k 0 0 0 0 0 0 false 0 0 0 0 0) w
    rw [hg] at this
    exact this
  have HR := Lib.hid hr
  clear h hg hr
  have hZ : Tbx w ((w.alloc (.cells #[.int .i64 0, .int .i64 0, .int .i64 0, .int .i64 0, .int .i64 0, .int .i64 0, .int .i64 0, .bool false, .int .u64 0, .int .u64 0, .int .u64 0, .int .u64 0, .int .u64 0] 67)).alloc (.cells #[.int .i64 k, .int .i64 0, .int .i64 0, .int .i64 0, .int .i64 0, .int .i64 0, .int .i64 0, .bool false, .int .u64 0, .int .u64 0, .int .u64 0, .int .u64 0, .int .u64 0] 67)) w.heap.size .zero := (Tbx.new w .zero 67).on (below_alloc _ _)
  have hT : Tbx (w.alloc (.cells #[.int .i64 0, .int .i64 0, .int .i64 0, .int .i64 0, .int .i64 0, .int .i64 0, .int .i64 0, .bool false, .int .u64 0, .int .u64 0, .int .u64 0, .int .u64 0, .int .u64 0] 67)) ((w.alloc (.cells #[.int .i64 0, .int .i64 0, .int .i64 0, .int .i64 0, .int .i64 0, .int .i64 0, .int .i64 0, .bool false, .int .u64 0, .int .u64 0, .int .u64 0, .int .u64 0, .int .u64 0] 67)).alloc (.cells #[.int .i64 k, .int .i64 0, .int .i64 0, .int .i64 0, .int .i64 0, .int .i64 0, .int .i64 0, .bool false, .int .u64 0, .int .u64 0, .int .u64 0, .int .u64 0, .int .u64 0] 67)) (w.alloc (.cells #[.int .i64 0, .int .i64 0, .int .i64 0, .int .i64 0, .int .i64 0, .int .i64 0, .int .i64 0, .bool false, .int .u64 0, .int .u64 0, .int .u64 0, .int .u64 0, .int .u64 0] 67)).heap.size (Tng.mk k 0 0 0 0 0 0 false 0 0 0 0 0) := Tbx.new _ (Tng.mk k 0 0 0 0 0 0 false 0 0 0 0 0) 67
  have hs : (w.alloc (.cells #[.int .i64 0, .int .i64 0, .int .i64 0, .int .i64 0, .int .i64 0, .int .i64 0, .int .i64 0, .bool false, .int .u64 0, .int .u64 0, .int .u64 0, .int .u64 0, .int .u64 0] 67)).heap.size = w.heap.size + 1 := by simp
  rw [hs] at hT
  clear hs
  go_enter Tryz.func131, Tryz.ntmps131
  go_wp2_with (go_at_call 95; (with_reducible refine (pcost_yes HC.out).mono ?_); rintro e w' ⟨rfl, rfl⟩)
  generalize (w.alloc (.cells #[.int .i64 0, .int .i64 0, .int .i64 0, .int .i64 0, .int .i64 0, .int .i64 0, .int .i64 0, .bool false, .int .u64 0, .int .u64 0, .int .u64 0, .int .u64 0, .int .u64 0] 67)).alloc (.cells #[.int .i64 k, .int .i64 0, .int .i64 0, .int .i64 0, .int .i64 0, .int .i64 0, .int .i64 0, .bool false, .int .u64 0, .int .u64 0, .int .u64 0, .int .u64 0, .int .u64 0] 67) = w1 at hZ hT ⊢
  refine (HR.out w1).mono ?_
  rintro e w2 ⟨rfl, hb⟩
  have hZ2 := hZ.on hb
  have hT2 := hT.on hb
  have HO := Lib.hid hZ2.old
  obtain ⟨c0, c1, c2, c3, c4, c5, c6, c7, c8, c9, c10, c11, c12, hf, _, _, lt⟩ := hZ2
  obtain ⟨e0, e1, e2, e3, e4, e5, e6, e7, e8, e9, e10, e11, e12, _, _, _, lt2⟩ := hT2
  simp only [Tng.zero, Tng.of, Int.ofNat_zero] at c0 c1 c2 c3 c4 c5 c6 c7 c8 c9 c10 c11 c12 e0 e1 e2 e3 e4 e5 e6 e7 e8 e9 e10 e11 e12
  have f0 := hf 0
  have f1 := hf 1
  have f2 := hf 2
  have f3 := hf 3
  have f4 := hf 4
  have f5 := hf 5
  have f6 := hf 6
  have f7 := hf 7
  have f8 := hf 8
  have f9 := hf 9
  have f10 := hf 10
  have f11 := hf 11
  have f12 := hf 12
  clear hZ hT hb HR hf
  go_wp2
  refine bodyPost_ret (by simp [results, Tryz.results131, go_sem, c0, c1, c2, c3, c4, c5, c6, c7, c8, c9, c10, c11, c12]; rfl) rfl ?_
  exact ⟨rfl, below_put HO.out (Nat.le_refl _) _ _ _ _ _ _ _ _ _ _ _ _ _⟩
theorem pnewt_is {k s b : Int} {w : World} {r : Option Tng} (hr : tnew k s b = r) : Calls Tryz.prog 131 #[.int .i64 k, .int .i64 s, .int .i64 b] w fun e w' => e = .returned (tv r) ∧ Below w.heap.size w w' := by
  rw [tnew] at hr
  rcases hc : tcost k s with _ | n
  · rw [if_neg (fun h => by rw [hc] at h; exact absurd h.1 (by decide))] at hr
    subst hr
    by_cases k1 : k = 1
    · subst k1; exact pnew1_none hc
    · by_cases k2 : k = 2
      · subst k2; exact pnew2_none hc
      · exact pnewx_none hc k1 k2
  · rcases hg : (tnewt k s b).good with _ | _
    · rw [if_neg (fun h => by rw [hg] at h; exact absurd h.2 (by decide))] at hr
      subst hr
      by_cases k1 : k = 1
      · subst k1; exact pnew1_false hc hg
      · by_cases k2 : k = 2
        · subst k2; exact pnew2_false hc hg
        · rw [tnewt, if_neg k1, if_neg k2] at hg
          exact pnewx_false hc hg k1 k2
    · rw [if_pos ⟨by rw [hc]; rfl, hg⟩] at hr
      subst hr
      by_cases k1 : k = 1
      · subst k1; exact pnew1_true hc hg
      · by_cases k2 : k = 2
        · subst k2; exact pnew2_true hc hg
        · rw [tnewt, if_neg k1, if_neg k2] at hg ⊢
          exact pnewx_true hc hg k1 k2
end Go.Proofs.YtkpbfbmkolgmgaaGreat
