/-
  The walks of package call's spans, of its forms' table. No condition.
-/
import Derived.Test.YtfcifheejjppfaaDoorAa
import Derived.Test.YtfcifheejjppfaaDoorHi
namespace Go.Proofs.YtfcifheejjppfaaDoor
open Go.RowKit

/-- cells in a block of the call's own; what was before stands -/
structure Bxs (W w : World) (g : Nat) (cs : List Value) : Prop where
  c : ∀ (k : Nat) (u : Value), cs[k]? = some u → w.cell? ⟨g, k, none⟩ = some u
  old : Below W.heap.size W w
  base : W.heap.size ≤ g
  lt : g < w.heap.size
theorem Bxs.new (w : World) (cs : List Value) (t : TypeId) : Bxs w (w.alloc (.cells cs.toArray t)) w.heap.size cs := by
  have hg := heap_alloc_new w (.cells cs.toArray t)
  exact ⟨fun k u h => by rw [cell_of_row _ _ k _ _ _ hg]; simpa using h, below_alloc _ _, Nat.le_refl _, by simp⟩
theorem Bxs.on {W w w' : World} {g : Nat} {cs : List Value} (h : Bxs W w g cs) (hb : Below w.heap.size w w') : Bxs W w' g cs :=
  ⟨fun k u hk => by rw [hb.cell (p := ⟨g, k, none⟩) h.lt]; exact h.c k u hk, below_on h.old hb, h.base, Nat.lt_of_lt_of_le h.lt hb.size⟩
theorem Bxs.more {W w : World} (h : Below W.heap.size W w) (cs : List Value) (t : TypeId) : Bxs W (w.alloc (.cells cs.toArray t)) w.heap.size cs :=
  ⟨(Bxs.new w cs t).c, below_on h (below_alloc _ _), h.size, (Bxs.new w cs t).lt⟩
theorem Bxs.next (w : World) (o : Obj) (cs : List Value) (t : TypeId) : Bxs w ((w.alloc o).alloc (.cells cs.toArray t)) (w.heap.size + 1) cs := by
  have h := Bxs.more (below_alloc w o) cs t
  rwa [show (w.alloc o).heap.size = w.heap.size + 1 by simp] at h
/-- a form as a value -/
def fcells (f : Fm) : List Value := [.string ⟨f.s.toArray⟩, .int .i64 f.bl, .int .i64 f.bm, .int .i64 f.xl, .int .i64 f.xm, .int .i64 f.yl, .int .i64 f.ym, .bool f.w]
theorem has_any (l m : Nat) (w : World) : Calls Tryd.prog 25 #[.agg #[.int .i64 (l : Int), .int .i64 (m : Int)]] w fun e w' => e = .returned (.bool (decide (0 < m))) ∧ Below w.heap.size w w' := by
  have hb := below_alloc w (.cells #[.int .i64 (l : Int), .int .i64 (m : Int)] 50)
  have HB := Lib.hid hb
  clear hb
  go_enter Tryd.func25, Tryd.ntmps25
  go_wp2
  go_ret
  exact ⟨rfl, HB.out⟩
theorem has_at {l m : Nat} {z : Bool} (h : decide (0 < m) = z) (w : World) : Calls Tryd.prog 25 #[.agg #[.int .i64 (l : Int), .int .i64 (m : Int)]] w fun e w' => e = .returned (.bool z) ∧ Below w.heap.size w w' := h ▸ has_any l m w
theorem holds_any (l m : Nat) (x : Int) (w : World) : Calls Tryd.prog 41 #[.agg #[.int .i64 (l : Int), .int .i64 (m : Int)], .int .i64 x] w fun e w' => e = .returned (.bool (inSpan l m x)) ∧ Below w.heap.size w w' := by
  have hb := below_alloc w (.cells #[.int .i64 (l : Int), .int .i64 (m : Int)] 50)
  have HB := Lib.hid hb
  clear hb
  unfold inSpan
  by_cases h : (l : Int) ≤ x
  · by_cases h2 : x ≤ (m : Int)
    · rw [decide_eq_true h, decide_eq_true h2]
      go_enter Tryd.func41, Tryd.ntmps41
      go_wp2
      go_ret
      exact ⟨rfl, HB.out⟩
    · rw [decide_eq_true h, decide_eq_false h2]
      go_enter Tryd.func41, Tryd.ntmps41
      go_wp2
      go_ret
      exact ⟨rfl, HB.out⟩
  · rw [decide_eq_false h]
    go_enter Tryd.func41, Tryd.ntmps41
    go_wp2
    go_ret
    exact ⟨rfl, HB.out⟩
theorem holds_at {l m : Nat} {x : Int} {z : Bool} (h : inSpan l m x = z) (w : World) : Calls Tryd.prog 41 #[.agg #[.int .i64 (l : Int), .int .i64 (m : Int)], .int .i64 x] w fun e w' => e = .returned (.bool z) ∧ Below w.heap.size w w' := h ▸ holds_any l m x w

theorem bal {V w' : World} {o : Obj} (h : Below V.heap.size V w') : Below V.heap.size V (w'.alloc o) := h.alloc h.size o
set_option maxHeartbeats 4000000 in
theorem form_1 (w : World) : Calls Tryd.prog 20 #[.int .i64 1] w fun e w' => e = .returned (.tuple #[.agg (fcells (forms 1)).toArray, .bool true]) ∧ Below w.heap.size w w' := by
  go_enter Tryd.func20, Tryd.ntmps20
  go_wp2
  go_returns
  refine ⟨by kernel_rfl, ?_⟩
  repeat (refine bal ?_)
  exact below_self _
set_option maxHeartbeats 4000000 in
theorem form_2 (w : World) : Calls Tryd.prog 20 #[.int .i64 2] w fun e w' => e = .returned (.tuple #[.agg (fcells (forms 2)).toArray, .bool true]) ∧ Below w.heap.size w w' := by
  go_enter Tryd.func20, Tryd.ntmps20
  go_wp2
  go_returns
  refine ⟨by kernel_rfl, ?_⟩
  repeat (refine bal ?_)
  exact below_self _
set_option maxHeartbeats 4000000 in
theorem form_3 (w : World) : Calls Tryd.prog 20 #[.int .i64 3] w fun e w' => e = .returned (.tuple #[.agg (fcells (forms 3)).toArray, .bool true]) ∧ Below w.heap.size w w' := by
  go_enter Tryd.func20, Tryd.ntmps20
  go_wp2
  go_returns
  refine ⟨by kernel_rfl, ?_⟩
  repeat (refine bal ?_)
  exact below_self _
set_option maxHeartbeats 4000000 in
theorem form_4 (w : World) : Calls Tryd.prog 20 #[.int .i64 4] w fun e w' => e = .returned (.tuple #[.agg (fcells (forms 4)).toArray, .bool true]) ∧ Below w.heap.size w w' := by
  go_enter Tryd.func20, Tryd.ntmps20
  go_wp2
  go_returns
  refine ⟨by kernel_rfl, ?_⟩
  repeat (refine bal ?_)
  exact below_self _
set_option maxHeartbeats 4000000 in
theorem form_5 (w : World) : Calls Tryd.prog 20 #[.int .i64 5] w fun e w' => e = .returned (.tuple #[.agg (fcells (forms 5)).toArray, .bool true]) ∧ Below w.heap.size w w' := by
  go_enter Tryd.func20, Tryd.ntmps20
  go_wp2
  go_returns
  refine ⟨by kernel_rfl, ?_⟩
  repeat (refine bal ?_)
  exact below_self _
set_option maxHeartbeats 4000000 in
theorem form_6 (w : World) : Calls Tryd.prog 20 #[.int .i64 6] w fun e w' => e = .returned (.tuple #[.agg (fcells (forms 6)).toArray, .bool true]) ∧ Below w.heap.size w w' := by
  go_enter Tryd.func20, Tryd.ntmps20
  go_wp2
  go_returns
  refine ⟨by kernel_rfl, ?_⟩
  repeat (refine bal ?_)
  exact below_self _
set_option maxHeartbeats 4000000 in
theorem form_7 (w : World) : Calls Tryd.prog 20 #[.int .i64 7] w fun e w' => e = .returned (.tuple #[.agg (fcells (forms 7)).toArray, .bool true]) ∧ Below w.heap.size w w' := by
  go_enter Tryd.func20, Tryd.ntmps20
  go_wp2
  go_returns
  refine ⟨by kernel_rfl, ?_⟩
  repeat (refine bal ?_)
  exact below_self _
set_option maxHeartbeats 4000000 in
theorem form_8 (w : World) : Calls Tryd.prog 20 #[.int .i64 8] w fun e w' => e = .returned (.tuple #[.agg (fcells (forms 8)).toArray, .bool true]) ∧ Below w.heap.size w w' := by
  go_enter Tryd.func20, Tryd.ntmps20
  go_wp2
  go_returns
  refine ⟨by kernel_rfl, ?_⟩
  repeat (refine bal ?_)
  exact below_self _
set_option maxHeartbeats 4000000 in
theorem form_9 (w : World) : Calls Tryd.prog 20 #[.int .i64 9] w fun e w' => e = .returned (.tuple #[.agg (fcells (forms 9)).toArray, .bool true]) ∧ Below w.heap.size w w' := by
  go_enter Tryd.func20, Tryd.ntmps20
  go_wp2
  go_returns
  refine ⟨by kernel_rfl, ?_⟩
  repeat (refine bal ?_)
  exact below_self _
set_option maxHeartbeats 4000000 in
theorem form_10 (w : World) : Calls Tryd.prog 20 #[.int .i64 10] w fun e w' => e = .returned (.tuple #[.agg (fcells (forms 10)).toArray, .bool true]) ∧ Below w.heap.size w w' := by
  go_enter Tryd.func20, Tryd.ntmps20
  go_wp2
  go_returns
  refine ⟨by kernel_rfl, ?_⟩
  repeat (refine bal ?_)
  exact below_self _
set_option maxHeartbeats 4000000 in
theorem form_11 (w : World) : Calls Tryd.prog 20 #[.int .i64 11] w fun e w' => e = .returned (.tuple #[.agg (fcells (forms 11)).toArray, .bool true]) ∧ Below w.heap.size w w' := by
  go_enter Tryd.func20, Tryd.ntmps20
  go_wp2
  go_returns
  refine ⟨by kernel_rfl, ?_⟩
  repeat (refine bal ?_)
  exact below_self _
set_option maxHeartbeats 4000000 in
theorem form_12 (w : World) : Calls Tryd.prog 20 #[.int .i64 12] w fun e w' => e = .returned (.tuple #[.agg (fcells (forms 12)).toArray, .bool true]) ∧ Below w.heap.size w w' := by
  go_enter Tryd.func20, Tryd.ntmps20
  go_wp2
  go_returns
  refine ⟨by kernel_rfl, ?_⟩
  repeat (refine bal ?_)
  exact below_self _
set_option maxHeartbeats 4000000 in
theorem form_13 (w : World) : Calls Tryd.prog 20 #[.int .i64 13] w fun e w' => e = .returned (.tuple #[.agg (fcells (forms 13)).toArray, .bool true]) ∧ Below w.heap.size w w' := by
  go_enter Tryd.func20, Tryd.ntmps20
  go_wp2
  go_returns
  refine ⟨by kernel_rfl, ?_⟩
  repeat (refine bal ?_)
  exact below_self _
theorem form_at {k : Nat} (h1 : 1 ≤ k) (h2 : k ≤ 13) (w : World) : Calls Tryd.prog 20 #[.int .i64 (k : Int)] w fun e w' => e = .returned (.tuple #[.agg (fcells (forms k)).toArray, .bool true]) ∧ Below w.heap.size w w' := by
  match k, h1, h2 with
  | 1, _, _ => exact form_1 w
  | 2, _, _ => exact form_2 w
  | 3, _, _ => exact form_3 w
  | 4, _, _ => exact form_4 w
  | 5, _, _ => exact form_5 w
  | 6, _, _ => exact form_6 w
  | 7, _, _ => exact form_7 w
  | 8, _, _ => exact form_8 w
  | 9, _, _ => exact form_9 w
  | 10, _, _ => exact form_10 w
  | 11, _, _ => exact form_11 w
  | 12, _, _ => exact form_12 w
  | 13, _, _ => exact form_13 w
set_option maxHeartbeats 4000000 in
theorem form_no {z : Int} (h : ¬ (1 ≤ z ∧ z ≤ 13)) (w : World) : Calls Tryd.prog 20 #[.int .i64 z] w fun e w' => e = .returned (.tuple #[.agg #[.string ⟨#[]⟩, .int .i64 0, .int .i64 0, .int .i64 0, .int .i64 0, .int .i64 0, .int .i64 0, .bool false], .bool false]) ∧ Below w.heap.size w w' := by
  have n1 : ¬ z = 1 := by omega
  have n2 : ¬ z = 2 := by omega
  have n3 : ¬ z = 3 := by omega
  have n4 : ¬ z = 4 := by omega
  have n5 : ¬ z = 5 := by omega
  have n6 : ¬ z = 6 := by omega
  have n7 : ¬ z = 7 := by omega
  have n8 : ¬ z = 8 := by omega
  have n9 : ¬ z = 9 := by omega
  have n10 : ¬ z = 10 := by omega
  have n11 : ¬ z = 11 := by omega
  have n12 : ¬ z = 12 := by omega
  have n13 : ¬ z = 13 := by omega
  clear h
  go_enter Tryd.func20, Tryd.ntmps20
  go_wp2
  go_returns
  refine ⟨by kernel_rfl, ?_⟩
  repeat (refine bal ?_)
  exact below_self _

/-- a call's cells -/
def ccells (o : Int) (A : Option Addr) (n ca : Nat) (B : Option Addr) (m cb : Nat) (x y : Int) (z : Nat) : List Value := [.int .i64 o, .slice A n ca, .slice B m cb, .int .i64 x, .int .i64 y, .int .u64 (z : Int)]
end Go.Proofs.YtfcifheejjppfaaDoor
