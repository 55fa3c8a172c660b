/-
  The walk of the law ThingKnown, over what the program's calls answer. No condition.
-/
import Derived.Test.YtglibcmlophieaaIk
import Derived.Great.BuildSlice
namespace Go.Proofs.Ytglibcmlophieaa
open Go.RowKit

def bads : List Tng := [(Tng.mk 6 0 0 0 0 0 0 false 0 0 0 0 0), (Tng.mk (-1) 0 0 0 0 0 0 false 0 0 0 0 0), (Tng.mk 0 0 0 1 0 0 0 false 0 0 0 0 0), (Tng.mk 1 0 0 0 0 0 0 false 0 0 0 0 0), (Tng.mk 1 0 0 4097 0 0 0 false 0 0 0 0 0), (Tng.mk 1 0 0 5 6 0 0 false 0 0 0 0 0), (Tng.mk 2 5 0 0 0 0 0 false 0 0 0 0 0), (Tng.mk 2 4 81 0 0 0 0 false 0 0 0 0 0), (Tng.mk 2 1 (-1) 0 0 0 0 false 0 0 0 0 0), (Tng.mk 3 0 0 0 0 0 0 false 1 0 0 0 0), (Tng.mk 3 0 0 0 0 97 0 true 0 0 0 0 0), (Tng.mk 3 0 0 0 0 0 65536 true 0 0 0 0 0), (Tng.mk 4 0 0 0 0 0 0 true 0 0 0 0 0), (Tng.mk 5 0 0 0 0 0 0 false 1 0 0 0 0), (Tng.mk 4 0 0 0 0 0 0 false 0 1 0 0 0)]
theorem bads_bad : ∀ x ∈ bads, x.good = false := by decide +kernel
/-- things one behind the other in a block -/
def ThAt (w : World) (B : Nat) (l : List Tng) : Prop := ∀ (j : Nat) (x : Tng), l[j]? = some x → w.cell? ⟨B, j * 13, none⟩ = some (.int .i64 x.ty) ∧ w.cell? ⟨B, j * 13 + 1, none⟩ = some (.int .i64 x.bits) ∧ w.cell? ⟨B, j * 13 + 2, none⟩ = some (.int .i64 x.base) ∧ w.cell? ⟨B, j * 13 + 3, none⟩ = some (.int .i64 x.size) ∧ w.cell? ⟨B, j * 13 + 4, none⟩ = some (.int .i64 x.used) ∧ w.cell? ⟨B, j * 13 + 5, none⟩ = some (.int .i64 x.frm) ∧ w.cell? ⟨B, j * 13 + 6, none⟩ = some (.int .i64 x.badge) ∧ w.cell? ⟨B, j * 13 + 7, none⟩ = some (.bool x.full) ∧ w.cell? ⟨B, j * 13 + 8, none⟩ = some (.int .u64 (x.word : Int)) ∧ w.cell? ⟨B, j * 13 + 9, none⟩ = some (.int .u64 (x.d0 : Int)) ∧ w.cell? ⟨B, j * 13 + 10, none⟩ = some (.int .u64 (x.d1 : Int)) ∧ w.cell? ⟨B, j * 13 + 11, none⟩ = some (.int .u64 (x.d2 : Int)) ∧ w.cell? ⟨B, j * 13 + 12, none⟩ = some (.int .u64 (x.d3 : Int))
theorem ThAt.below {w w' : World} {B : Nat} {l : List Tng} (h : ThAt w B l) (hb : Below w.heap.size w w') (lt : B < w.heap.size) : ThAt w' B l := fun j x hx => by
  have e : ∀ k, w'.cell? ⟨B, k, none⟩ = w.cell? ⟨B, k, none⟩ := fun k => hb.cell (p := ⟨B, k, none⟩) lt
  simp only [e]
  exact h j x hx
def tlist (t : Tng) : List Value := [.int .i64 t.ty, .int .i64 t.bits, .int .i64 t.base, .int .i64 t.size, .int .i64 t.used, .int .i64 t.frm, .int .i64 t.badge, .bool t.full, .int .u64 (t.word : Int), .int .u64 (t.d0 : Int), .int .u64 (t.d1 : Int), .int .u64 (t.d2 : Int), .int .u64 (t.d3 : Int)]
theorem flat13 : ∀ (l : List Tng) (j : Nat) (x : Tng), l[j]? = some x → ∀ c, c < 13 → (l.flatMap tlist)[j * 13 + c]? = (tlist x)[c]?
  | y :: l, 0, x, h, c, hc => by
    obtain rfl : y = x := by simpa using h
    rw [List.flatMap_cons, List.getElem?_append_left (by simpa [tlist] using hc), Nat.zero_mul, Nat.zero_add]
  | y :: l, j + 1, x, h, c, hc => by
    have := flat13 l j x (by simpa using h) c hc
    rw [List.flatMap_cons, List.getElem?_append_right (by simp [tlist]; omega), show (tlist y).length = 13 from rfl, show (j + 1) * 13 + c - 13 = j * 13 + c by omega, this]
theorem bads_cells : #[.int .i64 6, .int .i64 0, .int .i64 0, .int .i64 0, .int .i64 0, .int .i64 0, .int .i64 0, .bool false, .int .u64 0, .int .u64 0, .int .u64 0, .int .u64 0, .int .u64 0, .int .i64 (-1), .int .i64 0, .int .i64 0, .int .i64 0, .int .i64 0, .int .i64 0, .int .i64 0, .bool false, .int .u64 0, .int .u64 0, .int .u64 0, .int .u64 0, .int .u64 0, .int .i64 0, .int .i64 0, .int .i64 0, .int .i64 1, .int .i64 0, .int .i64 0, .int .i64 0, .bool false, .int .u64 0, .int .u64 0, .int .u64 0, .int .u64 0, .int .u64 0, .int .i64 1, .int .i64 0, .int .i64 0, .int .i64 0, .int .i64 0, .int .i64 0, .int .i64 0, .bool false, .int .u64 0, .int .u64 0, .int .u64 0, .int .u64 0, .int .u64 0, .int .i64 1, .int .i64 0, .int .i64 0, .int .i64 4097, .int .i64 0, .int .i64 0, .int .i64 0, .bool false, .int .u64 0, .int .u64 0, .int .u64 0, .int .u64 0, .int .u64 0, .int .i64 1, .int .i64 0, .int .i64 0, .int .i64 5, .int .i64 6, .int .i64 0, .int .i64 0, .bool false, .int .u64 0, .int .u64 0, .int .u64 0, .int .u64 0, .int .u64 0, .int .i64 2, .int .i64 5, .int .i64 0, .int .i64 0, .int .i64 0, .int .i64 0, .int .i64 0, .bool false, .int .u64 0, .int .u64 0, .int .u64 0, .int .u64 0, .int .u64 0, .int .i64 2, .int .i64 4, .int .i64 81, .int .i64 0, .int .i64 0, .int .i64 0, .int .i64 0, .bool false, .int .u64 0, .int .u64 0, .int .u64 0, .int .u64 0, .int .u64 0, .int .i64 2, .int .i64 1, .int .i64 (-1), .int .i64 0, .int .i64 0, .int .i64 0, .int .i64 0, .bool false, .int .u64 0, .int .u64 0, .int .u64 0, .int .u64 0, .int .u64 0, .int .i64 3, .int .i64 0, .int .i64 0, .int .i64 0, .int .i64 0, .int .i64 0, .int .i64 0, .bool false, .int .u64 1, .int .u64 0, .int .u64 0, .int .u64 0, .int .u64 0, .int .i64 3, .int .i64 0, .int .i64 0, .int .i64 0, .int .i64 0, .int .i64 97, .int .i64 0, .bool true, .int .u64 0, .int .u64 0, .int .u64 0, .int .u64 0, .int .u64 0, .int .i64 3, .int .i64 0, .int .i64 0, .int .i64 0, .int .i64 0, .int .i64 0, .int .i64 65536, .bool true, .int .u64 0, .int .u64 0, .int .u64 0, .int .u64 0, .int .u64 0, .int .i64 4, .int .i64 0, .int .i64 0, .int .i64 0, .int .i64 0, .int .i64 0, .int .i64 0, .bool true, .int .u64 0, .int .u64 0, .int .u64 0, .int .u64 0, .int .u64 0, .int .i64 5, .int .i64 0, .int .i64 0, .int .i64 0, .int .i64 0, .int .i64 0, .int .i64 0, .bool false, .int .u64 1, .int .u64 0, .int .u64 0, .int .u64 0, .int .u64 0, .int .i64 4, .int .i64 0, .int .i64 0, .int .i64 0, .int .i64 0, .int .i64 0, .int .i64 0, .bool false, .int .u64 0, .int .u64 1, .int .u64 0, .int .u64 0, .int .u64 0] = (bads.flatMap tlist).toArray := by kernel_rfl
theorem bads_at (w : World) : ThAt (w.alloc (.cells #[.int .i64 6, .int .i64 0, .int .i64 0, .int .i64 0, .int .i64 0, .int .i64 0, .int .i64 0, .bool false, .int .u64 0, .int .u64 0, .int .u64 0, .int .u64 0, .int .u64 0, .int .i64 (-1), .int .i64 0, .int .i64 0, .int .i64 0, .int .i64 0, .int .i64 0, .int .i64 0, .bool false, .int .u64 0, .int .u64 0, .int .u64 0, .int .u64 0, .int .u64 0, .int .i64 0, .int .i64 0, .int .i64 0, .int .i64 1, .int .i64 0, .int .i64 0, .int .i64 0, .bool false, .int .u64 0, .int .u64 0, .int .u64 0, .int .u64 0, .int .u64 0, .int .i64 1, .int .i64 0, .int .i64 0, .int .i64 0, .int .i64 0, .int .i64 0, .int .i64 0, .bool false, .int .u64 0, .int .u64 0, .int .u64 0, .int .u64 0, .int .u64 0, .int .i64 1, .int .i64 0, .int .i64 0, .int .i64 4097, .int .i64 0, .int .i64 0, .int .i64 0, .bool false, .int .u64 0, .int .u64 0, .int .u64 0, .int .u64 0, .int .u64 0, .int .i64 1, .int .i64 0, .int .i64 0, .int .i64 5, .int .i64 6, .int .i64 0, .int .i64 0, .bool false, .int .u64 0, .int .u64 0, .int .u64 0, .int .u64 0, .int .u64 0, .int .i64 2, .int .i64 5, .int .i64 0, .int .i64 0, .int .i64 0, .int .i64 0, .int .i64 0, .bool false, .int .u64 0, .int .u64 0, .int .u64 0, .int .u64 0, .int .u64 0, .int .i64 2, .int .i64 4, .int .i64 81, .int .i64 0, .int .i64 0, .int .i64 0, .int .i64 0, .bool false, .int .u64 0, .int .u64 0, .int .u64 0, .int .u64 0, .int .u64 0, .int .i64 2, .int .i64 1, .int .i64 (-1), .int .i64 0, .int .i64 0, .int .i64 0, .int .i64 0, .bool false, .int .u64 0, .int .u64 0, .int .u64 0, .int .u64 0, .int .u64 0, .int .i64 3, .int .i64 0, .int .i64 0, .int .i64 0, .int .i64 0, .int .i64 0, .int .i64 0, .bool false, .int .u64 1, .int .u64 0, .int .u64 0, .int .u64 0, .int .u64 0, .int .i64 3, .int .i64 0, .int .i64 0, .int .i64 0, .int .i64 0, .int .i64 97, .int .i64 0, .bool true, .int .u64 0, .int .u64 0, .int .u64 0, .int .u64 0, .int .u64 0, .int .i64 3, .int .i64 0, .int .i64 0, .int .i64 0, .int .i64 0, .int .i64 0, .int .i64 65536, .bool true, .int .u64 0, .int .u64 0, .int .u64 0, .int .u64 0, .int .u64 0, .int .i64 4, .int .i64 0, .int .i64 0, .int .i64 0, .int .i64 0, .int .i64 0, .int .i64 0, .bool true, .int .u64 0, .int .u64 0, .int .u64 0, .int .u64 0, .int .u64 0, .int .i64 5, .int .i64 0, .int .i64 0, .int .i64 0, .int .i64 0, .int .i64 0, .int .i64 0, .bool false, .int .u64 1, .int .u64 0, .int .u64 0, .int .u64 0, .int .u64 0, .int .i64 4, .int .i64 0, .int .i64 0, .int .i64 0, .int .i64 0, .int .i64 0, .int .i64 0, .bool false, .int .u64 0, .int .u64 1, .int .u64 0, .int .u64 0, .int .u64 0] 26)) w.heap.size bads := fun j x hx => by
  rw [bads_cells]
  have hg := heap_alloc_new w (.cells (bads.flatMap tlist).toArray 26)
  have hc : ∀ c, c < 13 → (w.alloc (.cells (bads.flatMap tlist).toArray 26)).cell? ⟨w.heap.size, j * 13 + c, none⟩ = (tlist x)[c]? := fun c h => by
    rw [cell_of_row _ _ _ _ _ _ hg, List.getElem?_toArray, flat13 bads j x hx c h]
  exact ⟨hc 0 (by decide), hc 1 (by decide), hc 2 (by decide), hc 3 (by decide), hc 4 (by decide), hc 5 (by decide), hc 6 (by decide), hc 7 (by decide), hc 8 (by decide), hc 9 (by decide), hc 10 (by decide), hc 11 (by decide), hc 12 (by decide)⟩
theorem info26_all : (Try.prog.info? 26).map (fun i => (i.zero, i.size)) = some (some Tng.zero.val, 13) := by kernel_rfl
theorem info26_parts : ∃ i : TypeInfo, Try.prog.info? 26 = some i ∧ i.zero = some Tng.zero.val ∧ i.size = 13 := by
  have h := info26_all
  cases hq : Try.prog.info? 26 with
  | none => simp [hq] at h
  | some i =>
    simp [hq] at h
    exact ⟨i, rfl, h.1, h.2⟩
def KnRel (W : World) (k : Nat) (p : Value) (wr : World) : Prop := ∃ i : Nat, k + i = 15 ∧ p = .int .i64 i ∧ Below W.heap.size W wr

set_option maxRecDepth 100000 in
set_option maxHeartbeats 20000000 in
theorem tknown_walk (K : Cot) (w : World) : Calls Try.prog 3 #[] w fun e w' => e = .returned (.bool true) ∧ Below w.heap.size w w' := by
  have HN : Hid (bads.length = 15) := Lib.hid rfl
  go_enter Try.func3, Try.ntmps3
  go_wp2_with fail
  refine (awake_any K w).mono ?_
  rintro e w1 ⟨rfl, hb⟩
  have hT := bads_at w1
  have HO := Lib.hid (below_on hb (below_alloc w1 (.cells #[.int .i64 6, .int .i64 0, .int .i64 0, .int .i64 0, .int .i64 0, .int .i64 0, .int .i64 0, .bool false, .int .u64 0, .int .u64 0, .int .u64 0, .int .u64 0, .int .u64 0, .int .i64 (-1), .int .i64 0, .int .i64 0, .int .i64 0, .int .i64 0, .int .i64 0, .int .i64 0, .bool false, .int .u64 0, .int .u64 0, .int .u64 0, .int .u64 0, .int .u64 0, .int .i64 0, .int .i64 0, .int .i64 0, .int .i64 1, .int .i64 0, .int .i64 0, .int .i64 0, .bool false, .int .u64 0, .int .u64 0, .int .u64 0, .int .u64 0, .int .u64 0, .int .i64 1, .int .i64 0, .int .i64 0, .int .i64 0, .int .i64 0, .int .i64 0, .int .i64 0, .bool false, .int .u64 0, .int .u64 0, .int .u64 0, .int .u64 0, .int .u64 0, .int .i64 1, .int .i64 0, .int .i64 0, .int .i64 4097, .int .i64 0, .int .i64 0, .int .i64 0, .bool false, .int .u64 0, .int .u64 0, .int .u64 0, .int .u64 0, .int .u64 0, .int .i64 1, .int .i64 0, .int .i64 0, .int .i64 5, .int .i64 6, .int .i64 0, .int .i64 0, .bool false, .int .u64 0, .int .u64 0, .int .u64 0, .int .u64 0, .int .u64 0, .int .i64 2, .int .i64 5, .int .i64 0, .int .i64 0, .int .i64 0, .int .i64 0, .int .i64 0, .bool false, .int .u64 0, .int .u64 0, .int .u64 0, .int .u64 0, .int .u64 0, .int .i64 2, .int .i64 4, .int .i64 81, .int .i64 0, .int .i64 0, .int .i64 0, .int .i64 0, .bool false, .int .u64 0, .int .u64 0, .int .u64 0, .int .u64 0, .int .u64 0, .int .i64 2, .int .i64 1, .int .i64 (-1), .int .i64 0, .int .i64 0, .int .i64 0, .int .i64 0, .bool false, .int .u64 0, .int .u64 0, .int .u64 0, .int .u64 0, .int .u64 0, .int .i64 3, .int .i64 0, .int .i64 0, .int .i64 0, .int .i64 0, .int .i64 0, .int .i64 0, .bool false, .int .u64 1, .int .u64 0, .int .u64 0, .int .u64 0, .int .u64 0, .int .i64 3, .int .i64 0, .int .i64 0, .int .i64 0, .int .i64 0, .int .i64 97, .int .i64 0, .bool true, .int .u64 0, .int .u64 0, .int .u64 0, .int .u64 0, .int .u64 0, .int .i64 3, .int .i64 0, .int .i64 0, .int .i64 0, .int .i64 0, .int .i64 0, .int .i64 65536, .bool true, .int .u64 0, .int .u64 0, .int .u64 0, .int .u64 0, .int .u64 0, .int .i64 4, .int .i64 0, .int .i64 0, .int .i64 0, .int .i64 0, .int .i64 0, .int .i64 0, .bool true, .int .u64 0, .int .u64 0, .int .u64 0, .int .u64 0, .int .u64 0, .int .i64 5, .int .i64 0, .int .i64 0, .int .i64 0, .int .i64 0, .int .i64 0, .int .i64 0, .bool false, .int .u64 1, .int .u64 0, .int .u64 0, .int .u64 0, .int .u64 0, .int .i64 4, .int .i64 0, .int .i64 0, .int .i64 0, .int .i64 0, .int .i64 0, .int .i64 0, .bool false, .int .u64 0, .int .u64 1, .int .u64 0, .int .u64 0, .int .u64 0] 26)))
  clear hb
  obtain ⟨ie, hie, hz, hsz⟩ := info26_parts
  go_wp2_with (refine wpList_buildSlice rfl 27 26 15 _ rfl #[.int .i64 6, .int .i64 0, .int .i64 0, .int .i64 0, .int .i64 0, .int .i64 0, .int .i64 0, .bool false, .int .u64 0, .int .u64 0, .int .u64 0, .int .u64 0, .int .u64 0, .int .i64 (-1), .int .i64 0, .int .i64 0, .int .i64 0, .int .i64 0, .int .i64 0, .int .i64 0, .bool false, .int .u64 0, .int .u64 0, .int .u64 0, .int .u64 0, .int .u64 0, .int .i64 0, .int .i64 0, .int .i64 0, .int .i64 1, .int .i64 0, .int .i64 0, .int .i64 0, .bool false, .int .u64 0, .int .u64 0, .int .u64 0, .int .u64 0, .int .u64 0, .int .i64 1, .int .i64 0, .int .i64 0, .int .i64 0, .int .i64 0, .int .i64 0, .int .i64 0, .bool false, .int .u64 0, .int .u64 0, .int .u64 0, .int .u64 0, .int .u64 0, .int .i64 1, .int .i64 0, .int .i64 0, .int .i64 4097, .int .i64 0, .int .i64 0, .int .i64 0, .bool false, .int .u64 0, .int .u64 0, .int .u64 0, .int .u64 0, .int .u64 0, .int .i64 1, .int .i64 0, .int .i64 0, .int .i64 5, .int .i64 6, .int .i64 0, .int .i64 0, .bool false, .int .u64 0, .int .u64 0, .int .u64 0, .int .u64 0, .int .u64 0, .int .i64 2, .int .i64 5, .int .i64 0, .int .i64 0, .int .i64 0, .int .i64 0, .int .i64 0, .bool false, .int .u64 0, .int .u64 0, .int .u64 0, .int .u64 0, .int .u64 0, .int .i64 2, .int .i64 4, .int .i64 81, .int .i64 0, .int .i64 0, .int .i64 0, .int .i64 0, .bool false, .int .u64 0, .int .u64 0, .int .u64 0, .int .u64 0, .int .u64 0, .int .i64 2, .int .i64 1, .int .i64 (-1), .int .i64 0, .int .i64 0, .int .i64 0, .int .i64 0, .bool false, .int .u64 0, .int .u64 0, .int .u64 0, .int .u64 0, .int .u64 0, .int .i64 3, .int .i64 0, .int .i64 0, .int .i64 0, .int .i64 0, .int .i64 0, .int .i64 0, .bool false, .int .u64 1, .int .u64 0, .int .u64 0, .int .u64 0, .int .u64 0, .int .i64 3, .int .i64 0, .int .i64 0, .int .i64 0, .int .i64 0, .int .i64 97, .int .i64 0, .bool true, .int .u64 0, .int .u64 0, .int .u64 0, .int .u64 0, .int .u64 0, .int .i64 3, .int .i64 0, .int .i64 0, .int .i64 0, .int .i64 0, .int .i64 0, .int .i64 65536, .bool true, .int .u64 0, .int .u64 0, .int .u64 0, .int .u64 0, .int .u64 0, .int .i64 4, .int .i64 0, .int .i64 0, .int .i64 0, .int .i64 0, .int .i64 0, .int .i64 0, .bool true, .int .u64 0, .int .u64 0, .int .u64 0, .int .u64 0, .int .u64 0, .int .i64 5, .int .i64 0, .int .i64 0, .int .i64 0, .int .i64 0, .int .i64 0, .int .i64 0, .bool false, .int .u64 1, .int .u64 0, .int .u64 0, .int .u64 0, .int .u64 0, .int .i64 4, .int .i64 0, .int .i64 0, .int .i64 0, .int .i64 0, .int .i64 0, .int .i64 0, .bool false, .int .u64 0, .int .u64 1, .int .u64 0, .int .u64 0, .int .u64 0] ie Tng.zero.val Try.underlying27 hie hz (by rw [hsz]; decide) (by rw [hsz]; decide) ?hf ?_)
  case hf => rw [hsz]; kernel_rfl
  clear hie hz hsz
  go_wp2_with fail
  have hlt : w1.heap.size < (w1.alloc (.cells #[.int .i64 6, .int .i64 0, .int .i64 0, .int .i64 0, .int .i64 0, .int .i64 0, .int .i64 0, .bool false, .int .u64 0, .int .u64 0, .int .u64 0, .int .u64 0, .int .u64 0, .int .i64 (-1), .int .i64 0, .int .i64 0, .int .i64 0, .int .i64 0, .int .i64 0, .int .i64 0, .bool false, .int .u64 0, .int .u64 0, .int .u64 0, .int .u64 0, .int .u64 0, .int .i64 0, .int .i64 0, .int .i64 0, .int .i64 1, .int .i64 0, .int .i64 0, .int .i64 0, .bool false, .int .u64 0, .int .u64 0, .int .u64 0, .int .u64 0, .int .u64 0, .int .i64 1, .int .i64 0, .int .i64 0, .int .i64 0, .int .i64 0, .int .i64 0, .int .i64 0, .bool false, .int .u64 0, .int .u64 0, .int .u64 0, .int .u64 0, .int .u64 0, .int .i64 1, .int .i64 0, .int .i64 0, .int .i64 4097, .int .i64 0, .int .i64 0, .int .i64 0, .bool false, .int .u64 0, .int .u64 0, .int .u64 0, .int .u64 0, .int .u64 0, .int .i64 1, .int .i64 0, .int .i64 0, .int .i64 5, .int .i64 6, .int .i64 0, .int .i64 0, .bool false, .int .u64 0, .int .u64 0, .int .u64 0, .int .u64 0, .int .u64 0, .int .i64 2, .int .i64 5, .int .i64 0, .int .i64 0, .int .i64 0, .int .i64 0, .int .i64 0, .bool false, .int .u64 0, .int .u64 0, .int .u64 0, .int .u64 0, .int .u64 0, .int .i64 2, .int .i64 4, .int .i64 81, .int .i64 0, .int .i64 0, .int .i64 0, .int .i64 0, .bool false, .int .u64 0, .int .u64 0, .int .u64 0, .int .u64 0, .int .u64 0, .int .i64 2, .int .i64 1, .int .i64 (-1), .int .i64 0, .int .i64 0, .int .i64 0, .int .i64 0, .bool false, .int .u64 0, .int .u64 0, .int .u64 0, .int .u64 0, .int .u64 0, .int .i64 3, .int .i64 0, .int .i64 0, .int .i64 0, .int .i64 0, .int .i64 0, .int .i64 0, .bool false, .int .u64 1, .int .u64 0, .int .u64 0, .int .u64 0, .int .u64 0, .int .i64 3, .int .i64 0, .int .i64 0, .int .i64 0, .int .i64 0, .int .i64 97, .int .i64 0, .bool true, .int .u64 0, .int .u64 0, .int .u64 0, .int .u64 0, .int .u64 0, .int .i64 3, .int .i64 0, .int .i64 0, .int .i64 0, .int .i64 0, .int .i64 0, .int .i64 65536, .bool true, .int .u64 0, .int .u64 0, .int .u64 0, .int .u64 0, .int .u64 0, .int .i64 4, .int .i64 0, .int .i64 0, .int .i64 0, .int .i64 0, .int .i64 0, .int .i64 0, .bool true, .int .u64 0, .int .u64 0, .int .u64 0, .int .u64 0, .int .u64 0, .int .i64 5, .int .i64 0, .int .i64 0, .int .i64 0, .int .i64 0, .int .i64 0, .int .i64 0, .bool false, .int .u64 1, .int .u64 0, .int .u64 0, .int .u64 0, .int .u64 0, .int .i64 4, .int .i64 0, .int .i64 0, .int .i64 0, .int .i64 0, .int .i64 0, .int .i64 0, .bool false, .int .u64 0, .int .u64 1, .int .u64 0, .int .u64 0, .int .u64 0] 26)).heap.size := by simp
  generalize w1.alloc (.cells #[.int .i64 6, .int .i64 0, .int .i64 0, .int .i64 0, .int .i64 0, .int .i64 0, .int .i64 0, .bool false, .int .u64 0, .int .u64 0, .int .u64 0, .int .u64 0, .int .u64 0, .int .i64 (-1), .int .i64 0, .int .i64 0, .int .i64 0, .int .i64 0, .int .i64 0, .int .i64 0, .bool false, .int .u64 0, .int .u64 0, .int .u64 0, .int .u64 0, .int .u64 0, .int .i64 0, .int .i64 0, .int .i64 0, .int .i64 1, .int .i64 0, .int .i64 0, .int .i64 0, .bool false, .int .u64 0, .int .u64 0, .int .u64 0, .int .u64 0, .int .u64 0, .int .i64 1, .int .i64 0, .int .i64 0, .int .i64 0, .int .i64 0, .int .i64 0, .int .i64 0, .bool false, .int .u64 0, .int .u64 0, .int .u64 0, .int .u64 0, .int .u64 0, .int .i64 1, .int .i64 0, .int .i64 0, .int .i64 4097, .int .i64 0, .int .i64 0, .int .i64 0, .bool false, .int .u64 0, .int .u64 0, .int .u64 0, .int .u64 0, .int .u64 0, .int .i64 1, .int .i64 0, .int .i64 0, .int .i64 5, .int .i64 6, .int .i64 0, .int .i64 0, .bool false, .int .u64 0, .int .u64 0, .int .u64 0, .int .u64 0, .int .u64 0, .int .i64 2, .int .i64 5, .int .i64 0, .int .i64 0, .int .i64 0, .int .i64 0, .int .i64 0, .bool false, .int .u64 0, .int .u64 0, .int .u64 0, .int .u64 0, .int .u64 0, .int .i64 2, .int .i64 4, .int .i64 81, .int .i64 0, .int .i64 0, .int .i64 0, .int .i64 0, .bool false, .int .u64 0, .int .u64 0, .int .u64 0, .int .u64 0, .int .u64 0, .int .i64 2, .int .i64 1, .int .i64 (-1), .int .i64 0, .int .i64 0, .int .i64 0, .int .i64 0, .bool false, .int .u64 0, .int .u64 0, .int .u64 0, .int .u64 0, .int .u64 0, .int .i64 3, .int .i64 0, .int .i64 0, .int .i64 0, .int .i64 0, .int .i64 0, .int .i64 0, .bool false, .int .u64 1, .int .u64 0, .int .u64 0, .int .u64 0, .int .u64 0, .int .i64 3, .int .i64 0, .int .i64 0, .int .i64 0, .int .i64 0, .int .i64 97, .int .i64 0, .bool true, .int .u64 0, .int .u64 0, .int .u64 0, .int .u64 0, .int .u64 0, .int .i64 3, .int .i64 0, .int .i64 0, .int .i64 0, .int .i64 0, .int .i64 0, .int .i64 65536, .bool true, .int .u64 0, .int .u64 0, .int .u64 0, .int .u64 0, .int .u64 0, .int .i64 4, .int .i64 0, .int .i64 0, .int .i64 0, .int .i64 0, .int .i64 0, .int .i64 0, .bool true, .int .u64 0, .int .u64 0, .int .u64 0, .int .u64 0, .int .u64 0, .int .i64 5, .int .i64 0, .int .i64 0, .int .i64 0, .int .i64 0, .int .i64 0, .int .i64 0, .bool false, .int .u64 1, .int .u64 0, .int .u64 0, .int .u64 0, .int .u64 0, .int .i64 4, .int .i64 0, .int .i64 0, .int .i64 0, .int .i64 0, .int .i64 0, .int .i64 0, .bool false, .int .u64 0, .int .u64 1, .int .u64 0, .int .u64 0, .int .u64 0] 26) = w2 at hT HO hlt ⊢
  have HT := Lib.hid hT
  have HLT := Lib.hid hlt
  clear hT hlt
  go_loopg [2] 15 (fun k p wr => KnRel w2 k p wr)
  case atStart => exact ⟨0, by omega, rfl, below_self _⟩
  case round =>
    obtain ⟨i, hk, rfl, hb⟩ := hrel
    have HK := Lib.hid hk
    have HB := Lib.hid hb
    clear hk hb
    by_cases hlt : i < 15
    · have HLT2 := Lib.hid hlt
      have hlt2 : (i : Int) < 15 := by omega
      obtain ⟨x, hx⟩ : ∃ x, bads[i]? = some x := ⟨bads[i]'(by rw [HN.out]; exact hlt), List.getElem?_eq_getElem _⟩
      have HG := Lib.hid (bads_bad x (List.mem_of_getElem? hx))
      have HT2 := Lib.hid (HT.out.below HB.out HLT.out)
      obtain ⟨c0, c1, c2, c3, c4, c5, c6, c7, c8, c9, c10, c11, c12⟩ := HT2.out i x hx
      have HX := Lib.hid hx
      clear hx
      go_wp2_with fail
      refine (K.is HG.out wr).mono ?_
      rintro e x1 ⟨rfl, hb⟩
      have HB2 := Lib.hid (below_on HB.out hb)
      clear hb HT2 c0 c1 c2 c3 c4 c5 c6 c7 c8 c9 c10 c11 c12
      have HT3 := Lib.hid (HT.out.below HB2.out HLT.out)
      obtain ⟨c0, c1, c2, c3, c4, c5, c6, c7, c8, c9, c10, c11, c12⟩ := HT3.out i x HX.out
      go_wp2_with fail
      refine (K.putn HG.out x1).mono ?_
      rintro e x2 ⟨B, cb, rfl, hb⟩
      have HB3 := Lib.hid (below_on HB2.out hb)
      clear hb HT3 c0 c1 c2 c3 c4 c5 c6 c7 c8 c9 c10 c11 c12
      go_wp2
      go_roundg (15 - (i + 1))
      case measure => have := HK.out; have := HLT2.out; omega
      case rel => exact ⟨i + 1, by have := HLT2.out; omega, by go_num, HB3.out⟩
    · have hlt2 : ¬ (i : Int) < 15 := by omega
      have HO2 := Lib.hid (below_on HO.out HB.out)
      clear HT HLT HK HB hlt HN HO
      go_wp2_with fail
      refine (K.costs (w := wr) (k := 1) (s := 4096) (n := 4096) (by decide +kernel)).mono ?_
      rintro e s1 ⟨rfl, hb⟩
      replace HO2 := Lib.hid (below_on HO2.out hb)
      clear hb
      go_wp2_with fail
      refine (K.not (w := s1) (k := 1) (s := 0) (by decide +kernel)).mono ?_
      rintro e s2 ⟨rfl, hb⟩
      replace HO2 := Lib.hid (below_on HO2.out hb)
      clear hb
      go_wp2_with fail
      refine (K.not (w := s2) (k := 2) (s := 5) (by decide +kernel)).mono ?_
      rintro e s3 ⟨rfl, hb⟩
      replace HO2 := Lib.hid (below_on HO2.out hb)
      clear hb
      go_wp2_with fail
      refine (K.costs (w := s3) (k := 5) (s := 99) (n := 2) (by decide +kernel)).mono ?_
      rintro e s4 ⟨rfl, hb⟩
      replace HO2 := Lib.hid (below_on HO2.out hb)
      clear hb
      go_wp2_with fail
      refine (K.not (w := s4) (k := 0) (s := 1) (by decide +kernel)).mono ?_
      rintro e s5 ⟨rfl, hb⟩
      replace HO2 := Lib.hid (below_on HO2.out hb)
      clear hb
      go_wp2_with fail
      have hnew : Calls Try.prog 12 #[.int .i64 2, .int .i64 4, .int .i64 81] s5 fun e w' => e = .returned (.tuple #[.agg #[.int .i64 0, .int .i64 0, .int .i64 0, .int .i64 0, .int .i64 0, .int .i64 0, .int .i64 0, .bool false, .int .u64 0, .int .u64 0, .int .u64 0, .int .u64 0, .int .u64 0], .bool false]) ∧ Below s5.heap.size s5 w' := K.new (r := none) (by kernel_rfl)
      refine (hnew).mono ?_
      rintro e s6 ⟨rfl, hb⟩
      replace HO2 := Lib.hid (below_on HO2.out hb)
      clear hb
      clear hnew
      have hx : Tbx s6 (s6.alloc (.cells #[.int .i64 0, .int .i64 0, .int .i64 0, .int .i64 0, .int .i64 0, .int .i64 0, .int .i64 0, .bool false, .int .u64 0, .int .u64 0, .int .u64 0, .int .u64 0, .int .u64 0] 26)) s6.heap.size (Tng.mk 0 0 0 0 0 0 0 false 0 0 0 0 0) := Tbx.new s6 (Tng.mk 0 0 0 0 0 0 0 false 0 0 0 0 0) 26
      have hk := hx.old
      have hs : (s6.alloc (.cells #[.int .i64 0, .int .i64 0, .int .i64 0, .int .i64 0, .int .i64 0, .int .i64 0, .int .i64 0, .bool false, .int .u64 0, .int .u64 0, .int .u64 0, .int .u64 0, .int .u64 0] 26)).heap.size = s6.heap.size + 1 := by simp
      go_wp2_with fail
      obtain ⟨Ps7, hP⟩ : ∃ P, P = s6.heap.size := ⟨_, rfl⟩
      rw [← hP] at hx hs ⊢
      clear hP
      generalize s6.alloc (.cells #[.int .i64 0, .int .i64 0, .int .i64 0, .int .i64 0, .int .i64 0, .int .i64 0, .int .i64 0, .bool false, .int .u64 0, .int .u64 0, .int .u64 0, .int .u64 0, .int .u64 0] 26) = s7 at hx hk hs ⊢
      replace HO2 := Lib.hid (below_on HO2.out hk)
      clear hk
      clear hx
      clear hs
      have hnew : Calls Try.prog 12 #[.int .i64 3, .int .i64 7, .int .i64 7] s7 fun e w' => e = .returned (.tuple #[.agg #[.int .i64 3, .int .i64 0, .int .i64 0, .int .i64 0, .int .i64 0, .int .i64 0, .int .i64 0, .bool false, .int .u64 0, .int .u64 0, .int .u64 0, .int .u64 0, .int .u64 0], .bool true]) ∧ Below s7.heap.size s7 w' := K.new (r := some (Tng.mk 3 0 0 0 0 0 0 false 0 0 0 0 0)) (by kernel_rfl)
      refine (hnew).mono ?_
      rintro e s8 ⟨rfl, hb⟩
      replace HO2 := Lib.hid (below_on HO2.out hb)
      clear hb
      clear hnew
      have hx : Tbx s8 (s8.alloc (.cells #[.int .i64 3, .int .i64 0, .int .i64 0, .int .i64 0, .int .i64 0, .int .i64 0, .int .i64 0, .bool false, .int .u64 0, .int .u64 0, .int .u64 0, .int .u64 0, .int .u64 0] 26)) s8.heap.size (Tng.mk 3 0 0 0 0 0 0 false 0 0 0 0 0) := Tbx.new s8 (Tng.mk 3 0 0 0 0 0 0 false 0 0 0 0 0) 26
      have hk := hx.old
      have hs : (s8.alloc (.cells #[.int .i64 3, .int .i64 0, .int .i64 0, .int .i64 0, .int .i64 0, .int .i64 0, .int .i64 0, .bool false, .int .u64 0, .int .u64 0, .int .u64 0, .int .u64 0, .int .u64 0] 26)).heap.size = s8.heap.size + 1 := by simp
      go_wp2_with fail
      obtain ⟨Ps9, hP⟩ : ∃ P, P = s8.heap.size := ⟨_, rfl⟩
      rw [← hP] at hx hs ⊢
      clear hP
      generalize s8.alloc (.cells #[.int .i64 3, .int .i64 0, .int .i64 0, .int .i64 0, .int .i64 0, .int .i64 0, .int .i64 0, .bool false, .int .u64 0, .int .u64 0, .int .u64 0, .int .u64 0, .int .u64 0] 26) = s9 at hx hk hs ⊢
      replace HO2 := Lib.hid (below_on HO2.out hk)
      clear hk
      have HI3 := Lib.hid hx
      clear hx
      have hk := below_alloc s9 (.cells #[.int .i64 3, .int .i64 0, .int .i64 0, .int .i64 0, .int .i64 0, .int .i64 96, .int .i64 3, .bool true, .int .u64 9, .int .u64 0, .int .u64 0, .int .u64 0, .int .u64 0] 26)
      generalize s9.alloc (.cells #[.int .i64 3, .int .i64 0, .int .i64 0, .int .i64 0, .int .i64 0, .int .i64 96, .int .i64 3, .bool true, .int .u64 9, .int .u64 0, .int .u64 0, .int .u64 0, .int .u64 0] 26) = s10 at hk ⊢
      replace HO2 := Lib.hid (below_on HO2.out hk)
      replace HI3 := Lib.hid (HI3.out.on hk)
      clear hk
      clear hs
      have hput : Calls Try.prog 10 #[.agg #[.int .i64 3, .int .i64 0, .int .i64 0, .int .i64 0, .int .i64 0, .int .i64 96, .int .i64 3, .bool true, .int .u64 9, .int .u64 0, .int .u64 0, .int .u64 0, .int .u64 0]] s10 fun e w' => ∃ B cb, e = .returned (.slice B 8 cb) ∧ 8 ≤ cb ∧ WordsAt w' w'.heap.size B (Tng.mk 3 0 0 0 0 96 3 true 9 0 0 0 0).words ∧ Below s10.heap.size s10 w' := K.putg (t := (Tng.mk 3 0 0 0 0 96 3 true 9 0 0 0 0)) (by kernel_rfl) s10
      refine (hput).mono ?_
      rintro e s11 ⟨FB, fc, rfl, _, hi, hb⟩
      replace HO2 := Lib.hid (below_on HO2.out hb)
      replace HI3 := Lib.hid (HI3.out.on hb)
      have HWD := Lib.hid hi
      clear hi
      clear hb
      clear hput
      go_wp2_with fail
      have hl := lit_words' s11 [1, 2, 3] 23 #[.int .u64 1, .int .u64 2, .int .u64 3] rfl
      have hk := below_alloc s11 (.cells #[.int .u64 1, .int .u64 2, .int .u64 3] 23)
      generalize s11.alloc (.cells #[.int .u64 1, .int .u64 2, .int .u64 3] 23) = s12 at hl hk ⊢
      replace HO2 := Lib.hid (below_on HO2.out hk)
      replace HI3 := Lib.hid (HI3.out.on hk)
      replace HWD := Lib.hid (HWD.out.grow hk)
      clear hk
      have hget : ∀ B, WordsAt s12 s12.heap.size B [1, 2, 3] → Calls Try.prog 13 #[.slice B 3 3] s12 fun e w' => e = .returned (.tuple #[.agg #[.int .i64 0, .int .i64 0, .int .i64 0, .int .i64 0, .int .i64 0, .int .i64 0, .int .i64 0, .bool false, .int .u64 0, .int .u64 0, .int .u64 0, .int .u64 0, .int .u64 0], .bool false]) ∧ Below s12.heap.size s12 w' := fun B h => K.get (n := 3) rfl (by decide) (by decide) h (by decide) (r := none) (by kernel_rfl)
      refine (hget _ hl).mono ?_
      rintro e s13 ⟨rfl, hb⟩
      replace HO2 := Lib.hid (below_on HO2.out hb)
      replace HI3 := Lib.hid (HI3.out.on hb)
      replace HWD := Lib.hid (HWD.out.grow hb)
      clear hb
      clear hget hl
      have hx : Tbx s13 (s13.alloc (.cells #[.int .i64 0, .int .i64 0, .int .i64 0, .int .i64 0, .int .i64 0, .int .i64 0, .int .i64 0, .bool false, .int .u64 0, .int .u64 0, .int .u64 0, .int .u64 0, .int .u64 0] 26)) s13.heap.size (Tng.mk 0 0 0 0 0 0 0 false 0 0 0 0 0) := Tbx.new s13 (Tng.mk 0 0 0 0 0 0 0 false 0 0 0 0 0) 26
      have hk := hx.old
      have hs : (s13.alloc (.cells #[.int .i64 0, .int .i64 0, .int .i64 0, .int .i64 0, .int .i64 0, .int .i64 0, .int .i64 0, .bool false, .int .u64 0, .int .u64 0, .int .u64 0, .int .u64 0, .int .u64 0] 26)).heap.size = s13.heap.size + 1 := by simp
      go_wp2_with fail
      obtain ⟨Ps14, hP⟩ : ∃ P, P = s13.heap.size := ⟨_, rfl⟩
      rw [← hP] at hx hs ⊢
      clear hP
      generalize s13.alloc (.cells #[.int .i64 0, .int .i64 0, .int .i64 0, .int .i64 0, .int .i64 0, .int .i64 0, .int .i64 0, .bool false, .int .u64 0, .int .u64 0, .int .u64 0, .int .u64 0, .int .u64 0] 26) = s14 at hx hk hs ⊢
      replace HO2 := Lib.hid (below_on HO2.out hk)
      replace HI3 := Lib.hid (HI3.out.on hk)
      replace HWD := Lib.hid (HWD.out.grow hk)
      clear hk
      clear hx
      have hl := lit_words' s14 [0, 0, 0, 0, 0, 0, 0, 0] 23 #[.int .u64 0, .int .u64 0, .int .u64 0, .int .u64 0, .int .u64 0, .int .u64 0, .int .u64 0, .int .u64 0] rfl
      have hk := below_alloc s14 (.cells #[.int .u64 0, .int .u64 0, .int .u64 0, .int .u64 0, .int .u64 0, .int .u64 0, .int .u64 0, .int .u64 0] 23)
      rw [hs] at hl
      generalize s14.alloc (.cells #[.int .u64 0, .int .u64 0, .int .u64 0, .int .u64 0, .int .u64 0, .int .u64 0, .int .u64 0, .int .u64 0] 23) = s15 at hl hk ⊢
      replace HO2 := Lib.hid (below_on HO2.out hk)
      replace HI3 := Lib.hid (HI3.out.on hk)
      replace HWD := Lib.hid (HWD.out.grow hk)
      clear hk
      clear hs
      have hget : ∀ B, WordsAt s15 s15.heap.size B [0, 0, 0, 0, 0, 0, 0, 0] → Calls Try.prog 13 #[.slice B 8 8] s15 fun e w' => e = .returned (.tuple #[.agg #[.int .i64 0, .int .i64 0, .int .i64 0, .int .i64 0, .int .i64 0, .int .i64 0, .int .i64 0, .bool false, .int .u64 0, .int .u64 0, .int .u64 0, .int .u64 0, .int .u64 0], .bool true]) ∧ Below s15.heap.size s15 w' := fun B h => K.get (n := 8) rfl (by decide) (by decide) h (by decide) (r := some (Tng.mk 0 0 0 0 0 0 0 false 0 0 0 0 0)) (by kernel_rfl)
      refine (hget _ hl).mono ?_
      rintro e s16 ⟨rfl, hb⟩
      replace HO2 := Lib.hid (below_on HO2.out hb)
      replace HI3 := Lib.hid (HI3.out.on hb)
      replace HWD := Lib.hid (HWD.out.grow hb)
      clear hb
      clear hget hl
      have hx : Tbx s16 (s16.alloc (.cells #[.int .i64 0, .int .i64 0, .int .i64 0, .int .i64 0, .int .i64 0, .int .i64 0, .int .i64 0, .bool false, .int .u64 0, .int .u64 0, .int .u64 0, .int .u64 0, .int .u64 0] 26)) s16.heap.size (Tng.mk 0 0 0 0 0 0 0 false 0 0 0 0 0) := Tbx.new s16 (Tng.mk 0 0 0 0 0 0 0 false 0 0 0 0 0) 26
      have hk := hx.old
      have hs : (s16.alloc (.cells #[.int .i64 0, .int .i64 0, .int .i64 0, .int .i64 0, .int .i64 0, .int .i64 0, .int .i64 0, .bool false, .int .u64 0, .int .u64 0, .int .u64 0, .int .u64 0, .int .u64 0] 26)).heap.size = s16.heap.size + 1 := by simp
      go_wp2_with fail
      obtain ⟨Ps17, hP⟩ : ∃ P, P = s16.heap.size := ⟨_, rfl⟩
      rw [← hP] at hx hs ⊢
      clear hP
      generalize s16.alloc (.cells #[.int .i64 0, .int .i64 0, .int .i64 0, .int .i64 0, .int .i64 0, .int .i64 0, .int .i64 0, .bool false, .int .u64 0, .int .u64 0, .int .u64 0, .int .u64 0, .int .u64 0] 26) = s17 at hx hk hs ⊢
      replace HO2 := Lib.hid (below_on HO2.out hk)
      replace HI3 := Lib.hid (HI3.out.on hk)
      replace HWD := Lib.hid (HWD.out.grow hk)
      clear hk
      have HZB := Lib.hid hx
      clear hx
      have hl := lit_words' s17 [0, 0, 0, 0, 0, 0, 0, 1] 23 #[.int .u64 0, .int .u64 0, .int .u64 0, .int .u64 0, .int .u64 0, .int .u64 0, .int .u64 0, .int .u64 1] rfl
      have hk := below_alloc s17 (.cells #[.int .u64 0, .int .u64 0, .int .u64 0, .int .u64 0, .int .u64 0, .int .u64 0, .int .u64 0, .int .u64 1] 23)
      rw [hs] at hl
      generalize s17.alloc (.cells #[.int .u64 0, .int .u64 0, .int .u64 0, .int .u64 0, .int .u64 0, .int .u64 0, .int .u64 0, .int .u64 1] 23) = s18 at hl hk ⊢
      replace HO2 := Lib.hid (below_on HO2.out hk)
      replace HI3 := Lib.hid (HI3.out.on hk)
      replace HWD := Lib.hid (HWD.out.grow hk)
      replace HZB := Lib.hid (HZB.out.on hk)
      clear hk
      clear hs
      have hget : ∀ B, WordsAt s18 s18.heap.size B [0, 0, 0, 0, 0, 0, 0, 1] → Calls Try.prog 13 #[.slice B 8 8] s18 fun e w' => e = .returned (.tuple #[.agg #[.int .i64 0, .int .i64 0, .int .i64 0, .int .i64 0, .int .i64 0, .int .i64 0, .int .i64 0, .bool false, .int .u64 0, .int .u64 0, .int .u64 0, .int .u64 0, .int .u64 0], .bool false]) ∧ Below s18.heap.size s18 w' := fun B h => K.get (n := 8) rfl (by decide) (by decide) h (by decide) (r := none) (by kernel_rfl)
      refine (hget _ hl).mono ?_
      rintro e s19 ⟨rfl, hb⟩
      replace HO2 := Lib.hid (below_on HO2.out hb)
      replace HI3 := Lib.hid (HI3.out.on hb)
      replace HWD := Lib.hid (HWD.out.grow hb)
      replace HZB := Lib.hid (HZB.out.on hb)
      clear hb
      clear hget hl
      have hk := below_alloc s19 (.cells #[.int .i64 0, .int .i64 0, .int .i64 0, .int .i64 0, .int .i64 0, .int .i64 0, .int .i64 0, .bool false, .int .u64 0, .int .u64 0, .int .u64 0, .int .u64 0, .int .u64 0] 26)
      replace HO2 := Lib.hid (below_on HO2.out hk)
      replace HI3 := Lib.hid (HI3.out.on hk)
      replace HWD := Lib.hid (HWD.out.grow hk)
      replace HZB := Lib.hid (HZB.out.on hk)
      obtain ⟨a0, a1, a2, a3, a4, a5, a6, a7, a8, a9, a10, a11, a12, _, _, _, _⟩ := HI3.out
      obtain ⟨b0, b1, b2, b3, b4, b5, b6, b7, b8, b9, b10, b11, b12, _, _, _, _⟩ := HZB.out
      simp only [Int.ofNat_zero] at a0 a1 a2 a3 a4 a5 a6 a7 a8 a9 a10 a11 a12 b0 b1 b2 b3 b4 b5 b6 b7 b8 b9 b10 b11 b12
      obtain ⟨g, o, rfl, _, hc⟩ := HWD.out (by decide)
      have d0 : (s19.alloc (.cells #[.int .i64 0, .int .i64 0, .int .i64 0, .int .i64 0, .int .i64 0, .int .i64 0, .int .i64 0, .bool false, .int .u64 0, .int .u64 0, .int .u64 0, .int .u64 0, .int .u64 0] 26)).cell? ⟨g, o, none⟩ = some (.int .u64 412333637635) := hc 0 412333637635 (by decide +kernel)
      have d1 : (s19.alloc (.cells #[.int .i64 0, .int .i64 0, .int .i64 0, .int .i64 0, .int .i64 0, .int .i64 0, .int .i64 0, .bool false, .int .u64 0, .int .u64 0, .int .u64 0, .int .u64 0, .int .u64 0] 26)).cell? ⟨g, o + 1, none⟩ = some (.int .u64 12884901888) := hc 1 12884901888 (by decide +kernel)
      have d2 : (s19.alloc (.cells #[.int .i64 0, .int .i64 0, .int .i64 0, .int .i64 0, .int .i64 0, .int .i64 0, .int .i64 0, .bool false, .int .u64 0, .int .u64 0, .int .u64 0, .int .u64 0, .int .u64 0] 26)).cell? ⟨g, o + 2, none⟩ = some (.int .u64 9) := hc 2 9 (by decide +kernel)
      have heq3 : ∀ w, (Op.equalIn 10000 26 (.agg #[.int .i64 3, .int .i64 0, .int .i64 0, .int .i64 0, .int .i64 0, .int .i64 0, .int .i64 0, .bool false, .int .u64 0, .int .u64 0, .int .u64 0, .int .u64 0, .int .u64 0]) (.agg #[.int .i64 3, .int .i64 0, .int .i64 0, .int .i64 0, .int .i64 0, .int .i64 0, .int .i64 0, .bool false, .int .u64 0, .int .u64 0, .int .u64 0, .int .u64 0, .int .u64 0])).run Try.prog w = .ok true w := fun w => by
        have := teq26 (Tng.mk 3 0 0 0 0 0 0 false 0 0 0 0 0) (Tng.mk 3 0 0 0 0 0 0 false 0 0 0 0 0) w
        rw [Tng.eq_self] at this
        exact this
      have heqz : ∀ w, (Op.equalIn 10000 26 (.agg #[.int .i64 0, .int .i64 0, .int .i64 0, .int .i64 0, .int .i64 0, .int .i64 0, .int .i64 0, .bool false, .int .u64 0, .int .u64 0, .int .u64 0, .int .u64 0, .int .u64 0]) (.agg #[.int .i64 0, .int .i64 0, .int .i64 0, .int .i64 0, .int .i64 0, .int .i64 0, .int .i64 0, .bool false, .int .u64 0, .int .u64 0, .int .u64 0, .int .u64 0, .int .u64 0])).run Try.prog w = .ok true w := fun w => by
        have := teq26 .zero .zero w
        rw [Tng.eq_self] at this
        exact this
      clear hc hk
      go_wp2
      go_ret
      exact ⟨rfl, HO2.out⟩
end Go.Proofs.Ytglibcmlophieaa
