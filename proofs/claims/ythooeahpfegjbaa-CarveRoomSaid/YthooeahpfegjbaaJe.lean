/-
  Slots and things in memory, one behind the other; a state in a box; the reference's has and owner. Condition: the state lies in memory, its things may be.
-/
import Derived.Test.YthooeahpfegjbaaJd
namespace Go.Proofs.Ythooeahpfegjbaa
open Go.RowKit

/-- a slot in memory -/
structure SlC (w : World) (b o : Nat) (x : Sl) : Prop where
  c0 : w.cell? ⟨b, o, none⟩ = some (.int .i64 x.c.ty)
  c1 : w.cell? ⟨b, o + 1, none⟩ = some (.int .i64 x.c.th)
  c2 : w.cell? ⟨b, o + 2, none⟩ = some (.int .i64 x.c.ri)
  c3 : w.cell? ⟨b, o + 3, none⟩ = some (.int .i64 x.c.ba)
  c4 : w.cell? ⟨b, o + 4, none⟩ = some (.int .i64 x.up)
theorem SlC.same {w w' : World} {b o : Nat} {x : Sl} (h : SlC w b o x) (e : ∀ k, w'.cell? ⟨b, k, none⟩ = w.cell? ⟨b, k, none⟩) : SlC w' b o x :=
  ⟨(e _).trans h.c0, (e _).trans h.c1, (e _).trans h.c2, (e _).trans h.c3, (e _).trans h.c4⟩
/-- a thing in memory -/
structure ThC (w : World) (b o : Nat) (t : Tng) : Prop where
  c0 : w.cell? ⟨b, o, none⟩ = some (.int .i64 t.ty)
  c1 : w.cell? ⟨b, o + 1, none⟩ = some (.int .i64 t.bits)
  c2 : w.cell? ⟨b, o + 2, none⟩ = some (.int .i64 t.base)
  c3 : w.cell? ⟨b, o + 3, none⟩ = some (.int .i64 t.size)
  c4 : w.cell? ⟨b, o + 4, none⟩ = some (.int .i64 t.used)
  c5 : w.cell? ⟨b, o + 5, none⟩ = some (.int .i64 t.frm)
  c6 : w.cell? ⟨b, o + 6, none⟩ = some (.int .i64 t.badge)
  c7 : w.cell? ⟨b, o + 7, none⟩ = some (.bool t.full)
  c8 : w.cell? ⟨b, o + 8, none⟩ = some (.int .u64 (t.word : Int))
  c9 : w.cell? ⟨b, o + 9, none⟩ = some (.int .u64 (t.d0 : Int))
  c10 : w.cell? ⟨b, o + 10, none⟩ = some (.int .u64 (t.d1 : Int))
  c11 : w.cell? ⟨b, o + 11, none⟩ = some (.int .u64 (t.d2 : Int))
  c12 : w.cell? ⟨b, o + 12, none⟩ = some (.int .u64 (t.d3 : Int))
theorem ThC.same {w w' : World} {b o : Nat} {t : Tng} (h : ThC w b o t) (e : ∀ k, w'.cell? ⟨b, k, none⟩ = w.cell? ⟨b, k, none⟩) : ThC w' b o t :=
  ⟨(e _).trans h.c0, (e _).trans h.c1, (e _).trans h.c2, (e _).trans h.c3, (e _).trans h.c4, (e _).trans h.c5, (e _).trans h.c6, (e _).trans h.c7, (e _).trans h.c8, (e _).trans h.c9, (e _).trans h.c10, (e _).trans h.c11, (e _).trans h.c12⟩
def SlotsAt (w : World) (B : Nat) (A : Option Addr) (l : List Sl) : Prop := 0 < l.length → ∃ b o, A = some ⟨b, o, none⟩ ∧ b < B ∧ ∀ j, j < l.length → SlC w b (o + j * 5) (slAt l j)
def ThingsAt (w : World) (B : Nat) (A : Option Addr) (l : List Tng) : Prop := 0 < l.length → ∃ b o, A = some ⟨b, o, none⟩ ∧ b < B ∧ ∀ j, j < l.length → ThC w b (o + j * 13) (thAt l j)
section
variable {w w' : World} {B B' : Nat} {A C : Option Addr} {l : List Sl} {m : List Tng}
theorem SlotsAt.below (h : SlotsAt w B A l) (hb : Below B w w') : SlotsAt w' B A l := fun h0 => by
  obtain ⟨b, o, e, hlt, hc⟩ := h h0
  exact ⟨b, o, e, hlt, fun j hj => (hc j hj).same fun k => hb.cell (p := ⟨b, k, none⟩) hlt⟩
theorem SlotsAt.mono (h : SlotsAt w B A l) (hB : B ≤ B') : SlotsAt w B' A l := fun h0 => by
  obtain ⟨b, o, e, hlt, hc⟩ := h h0
  exact ⟨b, o, e, by omega, hc⟩
theorem SlotsAt.on (h : SlotsAt w w.heap.size A l) (hb : Below w.heap.size w w') : SlotsAt w' w'.heap.size A l := (h.below hb).mono hb.size
theorem ThingsAt.below (h : ThingsAt w B A m) (hb : Below B w w') : ThingsAt w' B A m := fun h0 => by
  obtain ⟨b, o, e, hlt, hc⟩ := h h0
  exact ⟨b, o, e, hlt, fun j hj => (hc j hj).same fun k => hb.cell (p := ⟨b, k, none⟩) hlt⟩
theorem ThingsAt.mono (h : ThingsAt w B A m) (hB : B ≤ B') : ThingsAt w B' A m := fun h0 => by
  obtain ⟨b, o, e, hlt, hc⟩ := h h0
  exact ⟨b, o, e, by omega, hc⟩
theorem ThingsAt.on (h : ThingsAt w w.heap.size A m) (hb : Below w.heap.size w w') : ThingsAt w' w'.heap.size A m := (h.below hb).mono hb.size
end
/-- how a state lies -/
structure StAt (w : World) (s : St) (A C : Option Addr) : Prop where
  sl : SlotsAt w w.heap.size A s.sl
  th : ThingsAt w w.heap.size C s.th
theorem StAt.on {w w' : World} {s : St} {A C : Option Addr} (h : StAt w s A C) (hb : Below w.heap.size w w') : StAt w' s A C := ⟨h.sl.on hb, h.th.on hb⟩
/-- a state in a box; all that was there is as it was -/
structure Sbx (W w : World) (g : Nat) (a b c : Int) (A : Option Addr) (n ca : Nat) (C : Option Addr) (m cc : Nat) : Prop where
  c0 : w.cell? ⟨g, 0, none⟩ = some (.int .i64 a)
  c1 : w.cell? ⟨g, 1, none⟩ = some (.int .i64 b)
  c2 : w.cell? ⟨g, 2, none⟩ = some (.int .i64 c)
  c3 : w.cell? ⟨g, 3, none⟩ = some (.slice A n ca)
  c4 : w.cell? ⟨g, 4, none⟩ = some (.slice C m cc)
  old : Below W.heap.size W w
  base : W.heap.size ≤ g
  lt : g < w.heap.size
section
variable {W w w' : World} {g : Nat} {a b c : Int} {A : Option Addr} {n ca : Nat} {C : Option Addr} {m cc : Nat}
theorem Sbx.new (w : World) (a b c : Int) (A : Option Addr) (n ca : Nat) (C : Option Addr) (m cc : Nat) (t : TypeId) : Sbx w (w.alloc (.cells #[.int .i64 a, .int .i64 b, .int .i64 c, .slice A n ca, .slice C m cc] t)) w.heap.size a b c A n ca C m cc := by
  have hg := heap_alloc_new w (.cells #[.int .i64 a, .int .i64 b, .int .i64 c, .slice A n ca, .slice C m cc] t)
  constructor
  case old => exact below_alloc _ _
  case base => exact Nat.le_refl _
  case lt => simp
  all_goals (rw [cell_of_row _ _ _ _ _ _ hg]; rfl)
theorem Sbx.on (h : Sbx W w g a b c A n ca C m cc) (hb : Below w.heap.size w w') : Sbx W w' g a b c A n ca C m cc := by
  have e : ∀ k, w'.cell? ⟨g, k, none⟩ = w.cell? ⟨g, k, none⟩ := fun k => hb.cell (p := ⟨g, k, none⟩) h.lt
  exact ⟨(e _).trans h.c0, (e _).trans h.c1, (e _).trans h.c2, (e _).trans h.c3, (e _).trans h.c4, below_on h.old hb, h.base, Nat.lt_of_lt_of_le h.lt hb.size⟩
end

/-! ### has, owner -/
def ThOk (l : List Tng) : Prop := ∀ i, i < l.length → (thAt l i).good = true
theorem ThOk.small {l : List Tng} (h : ThOk l) {i : Nat} (hi : i < l.length) : Smallth (thAt l i) := (tng_good.1 (h i hi)).small
def OwRel (W : World) (g : Nat) (a b c : Int) (A : Option Addr) (n ca : Nat) (C : Option Addr) (m cc : Nat) (l : List Tng) (k : Int) (f : Nat) (p : Value) (wr : World) : Prop :=
  ∃ i : Nat, f + i = m ∧ p = .int .i64 i ∧ (∀ j, j < i → (thAt l j).hasS k = false) ∧ Sbx W wr g a b c A n ca C m cc
end Go.Proofs.Ythooeahpfegjbaa
