/-
  Words of a call's own that are stored into; the walk of the law SuperTurned. No condition beyond what the arguments' types say.
-/
import Derived.Test.YteadkcekoccmdaaSh
import Derived.Laws.AppendOwn
import Derived.Laws.OwnMore
namespace Go.Proofs.Yteadkcekoccmdaa
open Go.RowKit

/-- words as cells -/
def wcells (zs : List Int) : List Value := zs.map (Value.int .u64)
theorem wcells_length (zs : List Int) : (wcells zs).length = zs.length := by unfold wcells; simp
theorem wcells_one {zs : List Int} : ∀ u ∈ wcells zs, u.oneCell' = true := by
  intro u hu
  unfold wcells at hu
  obtain ⟨x, _, rfl⟩ := List.mem_map.1 hu
  rfl
theorem owns_new (w : World) {base : Nat} (h : base ≤ w.heap.size) : (w.alloc (.cells #[] 28)).ownsRow base 28 1 (.slice (some ⟨w.heap.size, 0, none⟩) 0 0) 0 [] :=
  ⟨rfl, .inr ⟨w.heap.size, 0, #[], rfl, h, heap_alloc_new w _, Nat.le_refl _, Nat.zero_le _, rfl, rfl⟩⟩

/-- words of the call's own lie in g; all that was there is as it was -/
structure Mw (W w : World) (g : Nat) (l : List Int) : Prop where
  cell : ∀ (j : Nat) (z : Int), l[j]? = some z → w.cell? ⟨g, j, none⟩ = some (.int .u64 z)
  free : ∀ j, w.frozen? ⟨g, j, none⟩ = false
  lt : g < w.heap.size
  base : W.heap.size ≤ g
  old : Below W.heap.size W w
section
variable {W w w' : World} {g : Nat} {l : List Int}
theorem Mw.on (h : Mw W w g l) (hb : Below w.heap.size w w') : Mw W w' g l :=
  ⟨fun j z hz => by rw [hb.cell (p := ⟨g, _, none⟩) h.lt]; exact h.cell j z hz, fun j => by rw [World.frozen?_of_block (w := w) (a := ⟨g, j, none⟩) (hb.block g h.lt)]; exact h.free j,
    Nat.lt_of_lt_of_le h.lt hb.size, h.base, below_on h.old hb⟩
theorem Mw.drewN (h : Mw W w g l) (k : Nat) : Mw W (w.drewN k) g l := ⟨h.cell, h.free, h.lt, h.base, below_draws h.old⟩
theorem Mw.set (h : Mw W w g l) {i : Nat} (hi : i < l.length) (z : Int) : Mw W (w.setCell ⟨g, i, none⟩ (.int .u64 z)) g (l.set i z) := by
  refine ⟨fun j x hx => ?_, fun j => by rw [World.frozen?_setCell]; exact h.free j, by simpa [World.setCell] using h.lt, h.base,
    h.old.trans ⟨rfl, rfl, rfl, by simp [World.setCell], fun k hk => Below.heap_setCell _ _ _ _ (by have := h.base; show k ≠ g; omega)⟩⟩
  by_cases e : i = j
  · subst e
    rw [World.cell?_setCell_same _ _ _ (h.cell i _ (List.getElem?_eq_getElem hi))]
    rw [List.getElem?_set_self hi] at hx
    injection hx with hx
    rw [hx]
  · rw [set_ne _ _ _ _ _ e]
    rw [List.getElem?_set_ne e] at hx
    exact h.cell j x hx
theorem Mw.words (h : Mw W w g l) {n cap : Nat} (hn : n = l.length) (hc : n ≤ cap) : Words w (.slice (some ⟨g, 0, none⟩) n cap) l := by
  subst hn
  exact ⟨some ⟨g, 0, none⟩, cap, rfl, hc, fun _ => ⟨g, 0, rfl, h.lt, fun j z hz => by rw [Nat.zero_add]; exact h.cell j z hz⟩⟩
/-- a row of the call's own that is no nil -/
theorem mw_of_owns {v : Value} {n : Nat} (hb : Below W.heap.size W w) (h : w.ownsRow W.heap.size 28 1 v n (wcells l)) (h0 : 0 < l.length) : ∃ g cap, v = .slice (some ⟨g, 0, none⟩) n cap ∧ n = l.length ∧ n ≤ cap ∧ Mw W w g l := by
  have hn : n = l.length := by have := h.1; rw [wcells_length] at this; omega
  rcases h.2 with ⟨rfl, h1⟩ | ⟨g, cap, cur, rfl, hbase, hg, h1, h2, h3, h4⟩
  · omega
  · refine ⟨g, cap, rfl, hn, h1, ⟨fun j z hz => ?_, fun j => frozen_of_row _ _ j _ _ hg, (Array.getElem?_eq_some_iff.1 hg).1, hbase, hb⟩⟩
    have hj : j < l.length := (List.getElem?_eq_some_iff.1 hz).1
    have := h.cellAt j (by omega)
    rw [this]
    unfold wcells
    rw [List.getElem?_map, hz]
    rfl
end

set_option maxHeartbeats 1000000 in
theorem turned_off (s : Sp) (at_ part z : Int) (hb : 0 ≤ s.b ∧ s.b < 18446744073709551616) (h : s.g.ok = false ∨ s.g.ok = true ∧ (at_ < 0 ∨ (0 ≤ at_ ∧ 7 < at_) ∨ (0 ≤ at_ ∧ at_ ≤ 7 ∧ part < 0) ∨ (0 ≤ at_ ∧ at_ ≤ 7 ∧ 0 ≤ part ∧ 3 < part))) (w : World) :
    Calls Try.prog 5 #[.agg #[.int .i64 s.g.t, .int .i64 s.g.s, .int .i64 s.g.k, .int .u64 s.b], .int .i64 at_, .int .i64 part, .int .u16 z] w fun e w' => e = .returned (.bool true) ∧ Below w.heap.size w w' := by
  obtain ⟨⟨t, s, k⟩, b⟩ := s
  have HB := Lib.hid hb
  have B0 := Lib.hid (below_alloc w (.cells #[.int .i64 t, .int .i64 s, .int .i64 k, .int .u64 b] 30))
  have V0 : Hid (Bs (w.alloc (.cells #[.int .i64 t, .int .i64 s, .int .i64 k, .int .u64 b] 30)) w.heap.size ⟨⟨t, s, k⟩, b⟩) := Lib.hid (Bs.new w ⟨⟨t, s, k⟩, b⟩ 30)
  clear hb
  go_enter Try.func5, Try.ntmps5
  go_wp2_with fail
  refine (awake_any _).mono ?_
  rintro e w1 ⟨rfl, hb⟩
  have B1 := Lib.hid (below_on B0.out hb)
  have hv := V0.out.on hb
  have c0 : w1.cell? ⟨w.heap.size, 0, none⟩ = some (.int .i64 t) := hv.t
  have c1 : w1.cell? ⟨w.heap.size, 1, none⟩ = some (.int .i64 s) := hv.s
  have c2 : w1.cell? ⟨w.heap.size, 2, none⟩ = some (.int .i64 k) := hv.k
  have c3 : w1.cell? ⟨w.heap.size, 3, none⟩ = some (.int .u64 b) := hv.u
  clear hb hv B0 V0
  go_wp2_with fail
  refine (put_any ⟨⟨t, s, k⟩, b⟩ _ HB.out).mono ?_
  rintro e w2 ⟨v, rfl, hv, hb⟩
  have B2 := Lib.hid (below_on B1.out hb)
  clear hb B1 c0 c1 c2 c3
  obtain ⟨A, cap, rfl, -, -⟩ := hv
  rcases h with h | ⟨h, hc⟩
  · rw [Sp.put_no h]
    go_wp2
    go_ret
    exact ⟨rfl, B2.out⟩
  · rw [Sp.put_yes h, Sp.full_length]
    rcases hc with hc | ⟨h1, hc⟩ | ⟨h1, h2, hc⟩ | ⟨h1, h2, h3, hc⟩
    · go_wp2
      go_ret
      exact ⟨rfl, B2.out⟩
    · go_wp2
      go_ret
      exact ⟨rfl, B2.out⟩
    · go_wp2
      go_ret
      exact ⟨rfl, B2.out⟩
    · go_wp2
      go_ret
      exact ⟨rfl, B2.out⟩
end Go.Proofs.Yteadkcekoccmdaa
