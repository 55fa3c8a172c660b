/-
  The walks of the law's up and awake; a box of one forest. Condition: the places lie in memory.
-/
import Derived.Test.YtigljoafmefbnaaEx
namespace Go.Proofs.Ytigljoafmefbnaa
open Go.RowKit

theorem up_is (A : Option Addr) (n cap : Nat) (w : World) : Calls Try.prog 9 #[.slice A n cap] w fun e w' => e = .returned (.agg #[.slice A n cap]) ∧ Below w.heap.size w w' := by
  go_enter Try.func9, Try.ntmps9
  go_wp2
  have e0 : (w.alloc (.cells #[.slice A n cap] 25)).cell? ⟨w.heap.size, 0, none⟩ = some (.slice A n cap) := by
    rw [cell_of_row _ _ 0 _ _ _ (heap_alloc_new w _)]; rfl
  refine bodyPost_ret (by simp [results, Try.results9, go_sem, e0]; rfl) rfl ?_
  exact ⟨rfl, below_alloc _ _⟩
/-- a box of the call's own, of one cell; what was before stands -/
structure Fbx (W w : World) (g : Nat) (v : Value) : Prop where
  c : w.cell? ⟨g, 0, none⟩ = some v
  old : Below W.heap.size W w
  lt : g < w.heap.size
theorem Fbx.new (w : World) (v : Value) (t : TypeId) : Fbx w (w.alloc (.cells #[v] t)) w.heap.size v := by
  have hg := heap_alloc_new w (.cells #[v] t)
  exact ⟨by rw [cell_of_row _ _ 0 _ _ _ hg]; rfl, below_alloc _ _, by simp⟩
theorem Fbx.on {W w w' : World} {g : Nat} {v : Value} (h : Fbx W w g v) (hb : Below w.heap.size w w') : Fbx W w' g v :=
  ⟨by rw [hb.cell (p := ⟨g, 0, none⟩) h.lt]; exact h.c, below_on h.old hb, Nat.lt_of_lt_of_le h.lt hb.size⟩

theorem awake_any (K : Con) (w : World) : Calls Try.prog 8 #[] w fun e w' => e = .returned (.bool true) ∧ Below w.heap.size w w' := by
  have HB : Hid (fbelow [-1, 0, 1] 0 = [1, 2]) := Lib.hid (by decide +kernel)
  have HD : Hid (fdepth [-1, 0, 1] 2 = 2) := Lib.hid (by decide +kernel)
  have HG : Hid (fgood [-1, 0, 1] = true) := Lib.hid (by decide +kernel)
  have hl := lit_ints w [-1, 0, 1] 3 #[.int .i64 (-1), .int .i64 0, .int .i64 1] rfl
  have ho := below_alloc w (.cells #[.int .i64 (-1), .int .i64 0, .int .i64 1] 3)
  go_enter Try.func8, Try.ntmps8
  go_wp2_with fail
  generalize w.alloc (.cells #[.int .i64 (-1), .int .i64 0, .int .i64 1] 3) = w1 at hl ho ⊢
  refine (up_is _ _ _ w1).mono ?_
  rintro e w2 ⟨rfl, hb⟩
  have HL := Lib.hid (hl.on hb)
  have HO := Lib.hid (below_on ho hb)
  clear hl ho hb
  go_wp2_with fail
  refine (K.below (w := w2) (l := [-1, 0, 1]) rfl (by decide) (by decide) HL.out HB.out).mono ?_
  rintro e w3 ⟨C, cc, rfl, hcc, hi, hb⟩
  have hl := lit_ints w3 [1, 2] 3 #[.int .i64 1, .int .i64 2] rfl
  have hj := hi.on (below_alloc w3 (.cells #[.int .i64 1, .int .i64 2] 3))
  have ho := below_on (below_on HO.out hb) (below_alloc w3 (.cells #[.int .i64 1, .int .i64 2] 3))
  clear HL HO hi hb hcc
  go_wp2_with fail
  generalize w3.alloc (.cells #[.int .i64 1, .int .i64 2] 3) = w4 at hl hj ho ⊢
  refine (ints_is (w := w4) (l := [1, 2]) (m := [1, 2]) rfl rfl (by decide) hj hl (same_ints _)).mono ?_
  rintro e w5 ⟨rfl, hb⟩
  have hl2 := lit_ints w5 [-1, 0, 1] 3 #[.int .i64 (-1), .int .i64 0, .int .i64 1] rfl
  have ho2 := below_on (below_on ho hb) (below_alloc w5 (.cells #[.int .i64 (-1), .int .i64 0, .int .i64 1] 3))
  clear hl hj ho hb
  go_wp2_with fail
  generalize w5.alloc (.cells #[.int .i64 (-1), .int .i64 0, .int .i64 1] 3) = w6 at hl2 ho2 ⊢
  refine (up_is _ _ _ w6).mono ?_
  rintro e w7 ⟨rfl, hb⟩
  have HL := Lib.hid (hl2.on hb)
  have HO := Lib.hid (below_on ho2 hb)
  clear hl2 ho2 hb
  go_wp2_with fail
  refine (K.depth (w := w7) (l := [-1, 0, 1]) rfl (by decide) (by decide) HL.out HD.out).mono ?_
  rintro e w8 ⟨rfl, hb⟩
  have hl2 := lit_ints w8 [-1, 0, 1] 3 #[.int .i64 (-1), .int .i64 0, .int .i64 1] rfl
  have ho2 := below_on (below_on HO.out hb) (below_alloc w8 (.cells #[.int .i64 (-1), .int .i64 0, .int .i64 1] 3))
  clear HL HO hb
  go_wp2_with fail
  generalize w8.alloc (.cells #[.int .i64 (-1), .int .i64 0, .int .i64 1] 3) = w9 at hl2 ho2 ⊢
  refine (up_is _ _ _ w9).mono ?_
  rintro e w10 ⟨rfl, hb⟩
  have HL := Lib.hid (hl2.on hb)
  have HO := Lib.hid (below_on ho2 hb)
  clear hl2 ho2 hb
  go_wp2_with fail
  refine (K.good (w := w10) (l := [-1, 0, 1]) rfl (by decide) (by decide) HL.out HG.out).mono ?_
  rintro e w11 ⟨rfl, hb⟩
  have HO2 := Lib.hid (below_on HO.out hb)
  clear HL HO hb
  go_wp2
  go_ret
  exact ⟨rfl, HO2.out⟩
end Go.Proofs.Ytigljoafmefbnaa
