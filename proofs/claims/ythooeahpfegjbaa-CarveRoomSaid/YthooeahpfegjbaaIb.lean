/-
  Words in memory; the law's words; a box of a thing. Condition: the words lie in memory.
-/
import Derived.Test.YthooeahpfegjbaaIa
import Derived.WalkKit
import Derived.WalkSpells
import Derived.WalkLawsBesides
import Derived.Lib.Hide
import Derived.Deep.CutBlock
import Derived.Deep.LoopGhost
import Derived.Deep.RegionHeld3
import Derived.Deep.DeepCutAuto
import Derived.Deep.CutRange
import Derived.Deep.QuietTactic
import Derived.BigQuiet
import Derived.StillTailTactics
import Derived.Handy
import Derived.Below
namespace Go.Proofs.Ythooeahpfegjbaa
open Go.RowKit

/-- words lie in a block below B -/
def WordsAt (w : World) (B : Nat) (A : Option Addr) (l : List Nat) : Prop :=
  0 < l.length → ∃ b o, A = some ⟨b, o, none⟩ ∧ b < B ∧ ∀ (j : Nat) (z : Nat), l[j]? = some z → w.cell? ⟨b, o + j, none⟩ = some (.int .u64 (z : Int))
theorem WordsAt.below {w w' : World} {B : Nat} {A : Option Addr} {l : List Nat} (h : WordsAt w B A l) (hb : Below B w w') : WordsAt w' B A l := fun h0 => by
  obtain ⟨b, o, e, hlt, hc⟩ := h h0
  exact ⟨b, o, e, hlt, fun j a ha => by rw [hb.cell (p := ⟨b, _, none⟩) hlt]; exact hc j a ha⟩
theorem WordsAt.mono {w : World} {B B' : Nat} {A : Option Addr} {l : List Nat} (h : WordsAt w B A l) (hB : B ≤ B') : WordsAt w B' A l := fun h0 => by
  obtain ⟨b, o, e, hlt, hc⟩ := h h0
  exact ⟨b, o, e, by omega, hc⟩
theorem WordsAt.grow {w w' : World} {A : Option Addr} {l : List Nat} (h : WordsAt w w.heap.size A l) (hb : Below w.heap.size w w') : WordsAt w' w'.heap.size A l := (h.below hb).mono hb.size
def ucells (l : List Nat) : List Value := l.map fun z : Nat => .int .u64 (z : Int)
theorem lit_words (w : World) (l : List Nat) (t : TypeId) (cs : Array Value) (hcs : cs = (ucells l).toArray) : WordsAt (w.alloc (.cells cs t)) (w.heap.size + 1) (some ⟨w.heap.size, 0, none⟩) l := fun _ => by
  subst hcs
  have hg := heap_alloc_new w (.cells (ucells l).toArray t)
  refine ⟨w.heap.size, 0, rfl, by omega, fun j z hz => ?_⟩
  rw [Nat.zero_add, cell_of_row _ _ j _ _ _ hg]
  unfold ucells
  simp [hz]
theorem lit_words' (w : World) (l : List Nat) (t : TypeId) (cs : Array Value) (hcs : cs = (ucells l).toArray) : WordsAt (w.alloc (.cells cs t)) (w.alloc (.cells cs t)).heap.size (some ⟨w.heap.size, 0, none⟩) l :=
  (lit_words w l t cs hcs).mono (by simp)
theorem no_words (w : World) : WordsAt w w.heap.size none [] := fun h => absurd h (by simp)

/-! ### the law's words -/
def TwRel (W : World) (n : Nat) (l m : List Nat) (k : Nat) (p : Value) (wr : World) : Prop :=
  ∃ i : Nat, k + i = n ∧ p = .int .i64 i ∧ l.take i = m.take i ∧ Below W.heap.size W wr
/-! ### a thing in a box -/
def tcells (t : Tng) : Array Value := #[.int .i64 t.ty, .int .i64 t.bits, .int .i64 t.base, .int .i64 t.size, .int .i64 t.used, .int .i64 t.frm, .int .i64 t.badge, .bool t.full, .int .u64 (t.word : Int), .int .u64 (t.d0 : Int), .int .u64 (t.d1 : Int), .int .u64 (t.d2 : Int), .int .u64 (t.d3 : Int)]
structure Tbx (W w : World) (g : Nat) (t : Tng) : Prop where
  c0 : w.cell? ⟨g, 0, none⟩ = some (.int .i64 t.ty)
  c1 : w.cell? ⟨g, 1, none⟩ = some (.int .i64 t.bits)
  c2 : w.cell? ⟨g, 2, none⟩ = some (.int .i64 t.base)
  c3 : w.cell? ⟨g, 3, none⟩ = some (.int .i64 t.size)
  c4 : w.cell? ⟨g, 4, none⟩ = some (.int .i64 t.used)
  c5 : w.cell? ⟨g, 5, none⟩ = some (.int .i64 t.frm)
  c6 : w.cell? ⟨g, 6, none⟩ = some (.int .i64 t.badge)
  c7 : w.cell? ⟨g, 7, none⟩ = some (.bool t.full)
  c8 : w.cell? ⟨g, 8, none⟩ = some (.int .u64 (t.word : Int))
  c9 : w.cell? ⟨g, 9, none⟩ = some (.int .u64 (t.d0 : Int))
  c10 : w.cell? ⟨g, 10, none⟩ = some (.int .u64 (t.d1 : Int))
  c11 : w.cell? ⟨g, 11, none⟩ = some (.int .u64 (t.d2 : Int))
  c12 : w.cell? ⟨g, 12, none⟩ = some (.int .u64 (t.d3 : Int))
  free : ∀ k, w.frozen? ⟨g, k, none⟩ = false
  old : Below W.heap.size W w
  base : W.heap.size ≤ g
  lt : g < w.heap.size
theorem Tbx.new (w : World) (t : Tng) (ty : TypeId) : Tbx w (w.alloc (.cells (tcells t) ty)) w.heap.size t := by
  have hg := heap_alloc_new w (.cells (tcells t) ty)
  constructor
  case old => exact below_alloc _ _
  case base => exact Nat.le_refl _
  case lt => simp
  case free => exact fun k => frozen_of_row _ _ k _ _ hg
  all_goals (rw [cell_of_row _ _ _ _ _ _ hg]; rfl)
theorem Tbx.on {W w w' : World} {g : Nat} {t : Tng} (h : Tbx W w g t) (hb : Below w.heap.size w w') : Tbx W w' g t := by
  have e : ∀ k, w'.cell? ⟨g, k, none⟩ = w.cell? ⟨g, k, none⟩ := fun k => hb.cell (p := ⟨g, k, none⟩) h.lt
  refine ⟨?_, ?_, ?_, ?_, ?_, ?_, ?_, ?_, ?_, ?_, ?_, ?_, ?_, fun k => ?_, below_on h.old hb, h.base, Nat.lt_of_lt_of_le h.lt hb.size⟩
  all_goals first | rw [e] | skip
  · exact h.c0
  · exact h.c1
  · exact h.c2
  · exact h.c3
  · exact h.c4
  · exact h.c5
  · exact h.c6
  · exact h.c7
  · exact h.c8
  · exact h.c9
  · exact h.c10
  · exact h.c11
  · exact h.c12
  · rw [World.frozen?_of_block (hb.block _ h.lt)]; exact h.free k
end Go.Proofs.Ythooeahpfegjbaa
