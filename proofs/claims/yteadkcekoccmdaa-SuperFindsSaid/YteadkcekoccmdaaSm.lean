/-
  A memory of words told by a function: how it lies, what is read of its ends. No condition.
-/
import Derived.Test.YteadkcekoccmdaaSj
import Derived.Test.YteadkcekoccmdaaSf
namespace Go.Proofs.Yteadkcekoccmdaa
open Go.RowKit

/-- so many words -/
def ls (n : Nat) (f : Nat → Int) : List Int := (List.range n).map f
theorem ls_length (n : Nat) (f : Nat → Int) : (ls n f).length = n := by unfold ls; simp
theorem ls_get {n : Nat} {f : Nat → Int} {j : Nat} (h : j < n) : (ls n f)[j]? = some (f j) := by
  unfold ls
  rw [List.getElem?_map, List.getElem?_range h]
  rfl
theorem ls_eq {x : List Int} {n : Nat} {f : Nat → Int} (hn : x.length = n) (h : ∀ j, j < n → x[j]? = some (f j)) : ls n f = x := by
  apply List.ext_getElem?
  intro j
  by_cases hj : j < n
  · rw [ls_get hj, h j hj]
  · rw [List.getElem?_eq_none (by rw [ls_length]; omega), List.getElem?_eq_none (by omega)]
theorem ls_same {n : Nat} {f g : Nat → Int} (h : ∀ j, j < n → f j = g j) : ls n f = ls n g := ls_eq (ls_length n g) fun j hj => by rw [ls_get hj, h j hj]
theorem ls_heads {n : Nat} {f : Nat → Int} (h : 8 ≤ n) : heads (ls n f) = ls 8 f := by
  refine (ls_eq ?_ fun j hj => ?_).symm
  · unfold heads; rw [List.length_take, ls_length]; omega
  · unfold heads; rw [List.getElem?_take, if_pos hj, ls_get (by omega)]
theorem ls_tails {n : Nat} {f : Nat → Int} (h : 8 ≤ n) : tails (ls n f) = ls 8 (fun j => f (n - 8 + j)) := by
  refine (ls_eq ?_ fun j hj => ?_).symm
  · unfold tails; rw [List.length_drop, ls_length]; omega
  · unfold tails; rw [List.getElem?_drop, ls_length, ls_get (by omega)]
theorem ls_words {n : Nat} {f : Nat → Int} (h : ∀ j, j < n → Wd (f j)) : Wds (ls n f) := by
  intro x hx
  unfold ls at hx
  rw [List.mem_map] at hx
  obtain ⟨j, hj, rfl⟩ := hx
  exact h j (List.mem_range.1 hj)
theorem ok_ls {n : Nat} {f : Nat → Int} (h : 8 ≤ n ∧ n % 8 = 0) : Ok (ls n f) = true := by
  unfold Ok
  rw [ls_length]
  exact decide_eq_true h
theorem got_zeros : got (ls 8 (fun _ => 0)) = false := by decide +kernel

/-- what is found of so many words -/
theorem first_ls {n r : Nat} {f : Nat → Int} (h : 8 ≤ n ∧ n % 8 = 0) (hr : n / 8 = r) : first (ls n f) = fits (r : Int) (ls 8 f) := by
  unfold first
  rw [ok_ls h, ls_length, ls_heads h.1, hr]
  rfl
theorem back_ls {n r : Nat} {f : Nat → Int} (h : 8 ≤ n ∧ n % 8 = 0) (hr : n / 8 = r) : back (ls n f) = fits (r : Int) (ls 8 (fun j => f (n - 8 + j))) := by
  unfold back
  rw [ok_ls h, ls_length, ls_tails h.1, hr]
  rfl
theorem fits_full {s : Sp} {r : Int} (h : s.g.ok = true) (hr : s.g.rows = r) : fits r s.full = true := by
  unfold fits
  rw [got_full h, get_full h, hr]
  simp
theorem fits_not {l : List Int} (r : Int) (h : got l = false) : fits r l = false := by
  unfold fits
  rw [h]
  rfl
theorem find_ls {n : Nat} {f : Nat → Int} (h : 8 ≤ n) : find (ls n f) = if first (ls n f) = true then get (ls 8 f) else if back (ls n f) = true then get (ls 8 (fun j => f (n - 8 + j))) else zsp := by
  unfold find
  rw [ls_heads h, ls_tails h]

/-- words f of a call's own lie in g; what was before stands -/
structure Mf (W : World) (g n : Nat) (f : Nat → Int) (w : World) : Prop where
  cell : ∀ j, j < n → w.cell? ⟨g, j, none⟩ = some (.int .u64 (f j))
  free : ∀ j, w.frozen? ⟨g, j, none⟩ = false
  lt : g < w.heap.size
  base : W.heap.size ≤ g
  old : Below W.heap.size W w
section
variable {W w w' : World} {g n : Nat} {f f' : Nat → Int}
theorem Mf.new (w : World) (n : Nat) : Mf w w.heap.size n (fun _ => 0) (w.alloc (.cells (madeCells #[.int .u64 0] n) 28)) :=
  ⟨fun j hj => by rw [made_cell _ _ _ _ _ hj]; simp [Nat.mod_one], fun j => made_free _ _ _ _ _, by simp, Nat.le_refl _, below_alloc _ _⟩
theorem Mf.on (h : Mf W g n f w) (hb : Below w.heap.size w w') : Mf W g n f w' :=
  ⟨fun j hj => by rw [hb.cell (p := ⟨g, _, none⟩) h.lt]; exact h.cell j hj, fun j => by rw [World.frozen?_of_block (w := w) (a := ⟨g, j, none⟩) (hb.block g h.lt)]; exact h.free j,
    Nat.lt_of_lt_of_le h.lt hb.size, h.base, below_on h.old hb⟩
theorem Mf.drewN (h : Mf W g n f w) (k : Nat) : Mf W g n f (w.drewN k) := ⟨h.cell, h.free, h.lt, h.base, below_draws h.old⟩
theorem Mf.same (h : Mf W g n f w) (e : ∀ j, j < n → f j = f' j) : Mf W g n f' w := ⟨fun j hj => by rw [h.cell j hj, e j hj], h.free, h.lt, h.base, h.old⟩
theorem Mf.set (h : Mf W g n f w) {i : Nat} (hi : i < n) (z : Int) : Mf W g n (fun j => if j = i then z else f j) (w.setCell ⟨g, i, none⟩ (.int .u64 z)) := by
  refine ⟨fun j hj => ?_, fun j => by rw [World.frozen?_setCell]; exact h.free j, by simpa [World.setCell] using h.lt, h.base,
    h.old.trans ⟨rfl, rfl, rfl, by simp [World.setCell], fun k hk => Below.heap_setCell _ _ _ _ (by have := h.base; show k ≠ g; omega)⟩⟩
  by_cases e : j = i
  · subst e
    rw [World.cell?_setCell_same _ _ _ (h.cell j hj), if_pos rfl]
  · rw [set_ne _ _ _ _ _ (fun q => e q.symm), h.cell j hj, if_neg e]
theorem Mf.words (h : Mf W g n f w) {m cap : Nat} (hm : m ≤ n) (hc : m ≤ cap) : Words w (.slice (some ⟨g, 0, none⟩) m cap) (ls m f) := by
  refine ⟨some ⟨g, 0, none⟩, cap, by rw [ls_length], by rw [ls_length]; exact hc, fun _ => ⟨g, 0, rfl, h.lt, fun j z hz => ?_⟩⟩
  have hj : j < m := by have := (List.getElem?_eq_some_iff.1 hz).1; rw [ls_length] at this; exact this
  rw [ls_get hj] at hz
  injection hz with hz
  rw [Nat.zero_add, h.cell j (by omega), hz]
end
end Go.Proofs.Yteadkcekoccmdaa
