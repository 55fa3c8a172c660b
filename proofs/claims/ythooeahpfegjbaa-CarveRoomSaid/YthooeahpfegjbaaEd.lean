/-
  Whole numbers in memory; lists of the call's own; the law's ints. Condition: the lists lie in memory.
-/
import Derived.Test.YthooeahpfegjbaaEc
import Derived.WalkKit
import Derived.WalkSpells
import Derived.WalkLawsBesides
import Derived.Lib.Hide
import Derived.Deep.CutBlock
import Derived.Deep.LoopGhost
import Derived.Deep.RegionHeld3
import Derived.Deep.DeepCutAuto
import Derived.Deep.CutRange
import Derived.Deep.QuietTactic
import Derived.BigQuiet
import Derived.StillTailTactics
import Derived.Handy
import Derived.Below
import Derived.Laws.AppendOwn
import Derived.Laws.OwnMore
import Derived.Laws.AppendOwnNone
namespace Go.Proofs.Ythooeahpfegjbaa
open Go.RowKit

/-- whole numbers lie in a block below B -/
def IntsAt (w : World) (B : Nat) (A : Option Addr) (l : List Int) : Prop :=
  0 < l.length → ∃ b o, A = some ⟨b, o, none⟩ ∧ b < B ∧ ∀ (j : Nat) (z : Int), l[j]? = some z → w.cell? ⟨b, o + j, none⟩ = some (.int .i64 z)
theorem IntsAt.below {w w' : World} {B : Nat} {A : Option Addr} {l : List Int} (h : IntsAt w B A l) (hb : Below B w w') : IntsAt w' B A l := fun h0 => by
  obtain ⟨b, o, e, hlt, hc⟩ := h h0
  exact ⟨b, o, e, hlt, fun j a ha => by rw [hb.cell (p := ⟨b, _, none⟩) hlt]; exact hc j a ha⟩
theorem IntsAt.mono {w : World} {B B' : Nat} {A : Option Addr} {l : List Int} (h : IntsAt w B A l) (hB : B ≤ B') : IntsAt w B' A l := fun h0 => by
  obtain ⟨b, o, e, hlt, hc⟩ := h h0
  exact ⟨b, o, e, by omega, hc⟩
/-- what lay there lies there still -/
theorem IntsAt.on {w w' : World} {A : Option Addr} {l : List Int} (h : IntsAt w w.heap.size A l) (hb : Below w.heap.size w w') : IntsAt w' w'.heap.size A l := (h.below hb).mono hb.size
theorem below_self (w : World) : Below w.heap.size w w := Below.refl _ _
theorem below_draws {B : Nat} {a w : World} (h : Below B a w) (n : Nat) : Below B a (w.drewN n) := h.trans ⟨rfl, rfl, rfl, Nat.le_refl _, fun _ _ => rfl⟩
theorem info3_all : (Try.prog.info? 3).map (fun i => (i.zero, i.size, i.bytes)) = some (some (.int .i64 0), 1, 8) := by kernel_rfl
theorem info3_parts : ∃ i : TypeInfo, Try.prog.info? 3 = some i ∧ i.zero = some (.int .i64 0) ∧ i.size = 1 ∧ i.bytes = 8 := by
  have h := info3_all
  cases hq : Try.prog.info? 3 with
  | none => simp [hq] at h
  | some i =>
    simp [hq] at h
    exact ⟨i, rfl, h.1, h.2.1, h.2.2⟩
theorem make_ints (k : IntKind) (n : Nat) (hn : n ≤ 4096) (w : World) : (Instr.makeSlice 33 (.int k (n : Int)) (.int k (n : Int))).run Try.prog w = .ok (.slice (some ⟨w.heap.size, 0, none⟩) n n) (w.alloc (.cells (madeCells #[.int .i64 0] n) 3)) := by
  obtain ⟨i, h1, h2, h3, h4⟩ := info3_parts
  have := run_make w 33 3 i (.int .i64 0) Try.underlying33 h1 h2 k k n n (by omega) (by omega) (by rw [h4]; omega) (by omega)
  rw [h3] at this
  simpa [Value.cells] using this
theorem made_cell (w : World) (z : Value) (n t k : Nat) (hk : k < n) : (w.alloc (.cells (madeCells #[z] n) t)).cell? ⟨w.heap.size, k, none⟩ = some z := by
  rw [cell_of_row _ _ k _ _ _ (heap_alloc_new w _)]
  unfold madeCells
  simp [hk, Nat.mod_one]
/-- whole numbers written out -/
def icells (l : List Int) : List Value := l.map (.int .i64)
theorem icells_append (l m : List Int) : icells (l ++ m) = icells l ++ icells m := List.map_append
theorem lit_ints (w : World) (l : List Int) (t : TypeId) (cs : Array Value) (hcs : cs = (icells l).toArray) : IntsAt (w.alloc (.cells cs t)) (w.alloc (.cells cs t)).heap.size (some ⟨w.heap.size, 0, none⟩) l := fun _ => by
  refine ⟨w.heap.size, 0, rfl, by simp, fun j z hz => ?_⟩
  rw [cell_of_row _ _ _ _ _ _ (heap_alloc_new w _), hcs, List.getElem?_toArray, icells, List.getElem?_map, Nat.zero_add, hz]
  rfl

/-- a list of the call's own; all that was there is as it was -/
structure Bi (W w : World) (v : Value) (l : List Int) : Prop where
  own : w.ownsRow W.heap.size 3 1 v l.length (icells l)
  old : Below W.heap.size W w
section
variable {W w w' : World} {v v' : Value} {l l' : List Int}
theorem Bi.alloc (h : Bi W w v l) (ob : Obj) : Bi W (w.alloc ob) v l := ⟨h.own.alloc ob, h.old.alloc h.old.size _⟩
theorem Bi.more (h : Bi W w v l) (hg : w.grownBy w' v.ownBlock) (ho : w'.ownsRow W.heap.size 3 1 v' l'.length (icells l')) : Bi W w' v' l' :=
  ⟨ho, h.old.grown hg h.old.size fun k hk => (h.own.lt k hk).1⟩
theorem Bi.on (h : Bi W w v l) (hb : Below w.heap.size w w') : Bi W w' v l :=
  ⟨h.own.kept (row := none) ⟨hb.os, hb.tape, hb.output, hb.size, fun k hk _ => hb.block k hk⟩ (by cases hv : v.ownBlock <;> simp), below_on h.old hb⟩
theorem Bi.ints (h : Bi W w v l) : ∃ A cap, v = .slice A l.length cap ∧ IntsAt w w.heap.size A l := by
  have ho := h.own
  rcases ho.2 with ⟨rfl, h0⟩ | ⟨g, cap, cur, rfl, hb, hg, h1, h2, h3, h4⟩
  · exact ⟨none, 0, by rw [h0], fun hp => absurd hp (by omega)⟩
  · refine ⟨some ⟨g, 0, none⟩, cap, rfl, fun _ => ⟨g, 0, rfl, (Array.getElem?_eq_some_iff.1 hg).1, fun j x hx => ?_⟩⟩
    have hj : j < l.length := (List.getElem?_eq_some_iff.1 hx).1
    have := ho.cellAt j (by omega)
    rw [Nat.zero_add, this, icells, List.getElem?_map, hx]
    rfl
end
theorem Bi.block {W w : World} {v : Value} {l : List Int} (h : Bi W w v l) (h0 : l ≠ []) : ∃ g cap, v = .slice (some ⟨g, 0, none⟩) l.length cap ∧ W.heap.size ≤ g ∧ g < w.heap.size ∧
    (∀ j (z : Int), l[j]? = some z → w.cell? ⟨g, j, none⟩ = some (.int .i64 z)) ∧ ∀ j, w.frozen? ⟨g, j, none⟩ = false := by
  have ho := h.own
  rcases ho.2 with ⟨rfl, hz⟩ | ⟨g, cap, cur, rfl, hb, hg, h1, h2, h3, h4⟩
  · exact absurd (List.length_eq_zero_iff.1 hz) h0
  · refine ⟨g, cap, rfl, hb, (Array.getElem?_eq_some_iff.1 hg).1, fun j x hx => ?_, fun j => ho.frozenAt j⟩
    have hj : j < l.length := (List.getElem?_eq_some_iff.1 hx).1
    have := ho.cellAt j (by omega)
    rw [this, icells, List.getElem?_map, hx]
    rfl
theorem Bi.put {W w : World} {g cap : Nat} {l : List Int} (h : Bi W w (.slice (some ⟨g, 0, none⟩) l.length cap) l) (k : Nat) (y : Int) : Bi W (w.setCell ⟨g, k, none⟩ (.int .i64 y)) (.slice (some ⟨g, 0, none⟩) l.length cap) (l.set k y) := by
  obtain ⟨h1, h2⟩ := h.own.stored k (.int .i64 y)
  refine h.more h2 ?_
  rw [icells, List.map_set, List.length_set]
  exact h1
theorem Bi.put' {W w : World} {g cap n : Nat} {l : List Int} (h : Bi W w (.slice (some ⟨g, 0, none⟩) n cap) l) (hn : n = l.length) (k : Nat) (y : Int) : Bi W (w.setCell ⟨g, k, none⟩ (.int .i64 y)) (.slice (some ⟨g, 0, none⟩) n cap) (l.set k y) := by
  subst hn
  exact h.put k y
theorem Bi.drew {W w : World} {v : Value} {l : List Int} (h : Bi W w v l) : Bi W w.drew v l := ⟨h.own, h.old.drew⟩
/-- one number in memory, as a list -/
theorem one_new (w : World) (z : Int) : ∀ j u, [Value.int .i64 z][j]? = some u → (w.alloc (.cells #[.int .i64 z] 3)).cell? ((⟨w.heap.size, 0, none⟩ : Addr).add j) = some u := fun j u hu => by
  rw [Addr.add_mid, Nat.zero_add, cell_of_row _ _ j _ _ _ (heap_alloc_new w _), ← hu]
  simp
theorem one_plain (z : Int) : ∀ u ∈ [Value.int .i64 z], u.oneCell' = true := by
  intro u hu
  simp at hu
  subst hu
  rfl

def SameRel (W : World) (n : Nat) (l m : List Int) (k : Nat) (p : Value) (wr : World) : Prop :=
  ∃ i : Nat, k + i = n ∧ p = .int .i64 i ∧ l.take i = m.take i ∧ Below W.heap.size W wr
theorem same_ints (l : List Int) : (l == l) = true := by simp
theorem none_at (w : World) : IntsAt w w.heap.size none [] := fun h => absurd h (by simp)
end Go.Proofs.Ythooeahpfegjbaa
