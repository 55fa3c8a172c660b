/-
  A Geo as plain data, where everything stands by it; the walks of package geo's within and Good. No condition.
-/
import Derived.Test.YthooeahpfegjbaaRows
import Derived.WalkKit
import Derived.WalkSpells
import Derived.WalkLawsBesides
import Derived.Lib.Hide
import Derived.Below
import Derived.Deep.CutBlock
import Derived.Deep.LoopGhost
import Derived.Deep.RegionHeld3
import Derived.Deep.DeepCutAuto
import Derived.Deep.CutRange
import Derived.Deep.QuietTactic
import Derived.BigQuiet
import Derived.StillTailTactics
namespace Go.Proofs.Ythooeahpfegjbaa
open Go.RowKit

/-- how many there are -/
structure Gd where
  t : Int
  s : Int
  k : Int
instance : Inhabited Gd := ⟨⟨0, 0, 0⟩⟩
/-- its cells, and itself as a value -/
def Gd.cells (g : Gd) : Array Value := #[.int .i64 g.t, .int .i64 g.s, .int .i64 g.k]
def Gd.ok (g : Gd) : Bool := decide (1 ≤ g.t ∧ g.t ≤ 4 ∧ 8 * g.t ≤ g.s ∧ g.s ≤ 96 ∧ g.s % 8 = 0 ∧ g.t + 2 ≤ g.k ∧ g.k ≤ 48)
def Gd.slot0 (g : Gd) : Int := 16 + g.t * 1208
def Gd.thing0 (g : Gd) : Int := g.slot0 + g.s * 2
def Gd.copy0 (g : Gd) : Int := g.thing0 + g.k * 8
def Gd.has (g : Gd) (n i : Int) : Bool := g.ok && decide (0 ≤ i ∧ i ≤ n - 1)
def Gd.rows (g : Gd) : Int := if g.ok = true then g.copy0 / 8 + 1 else 0
def Gd.lock (g : Gd) : Int := if g.ok = true then 8 else 0
def Gd.copy (g : Gd) : Int := if g.ok = true then g.copy0 else 0
def Gd.desc (g : Gd) (i : Int) : Int := if g.has g.t i = true then 16 + i * 1208 else 0
def Gd.descs (g : Gd) (i : Int) : Int := if g.has g.t i = true then 1208 else 0
def Gd.slot (g : Gd) (i : Int) : Int := if g.has g.s i = true then g.slot0 + i * 2 else 0
def Gd.thing (g : Gd) (i : Int) : Int := if g.has g.k i = true then g.thing0 + i * 8 else 0
def Gd.root (g : Gd) (i : Int) : Int := if g.has g.t i = true then i * 8 else 0

theorem Gd.ok_iff {g : Gd} : g.ok = true ↔ 1 ≤ g.t ∧ g.t ≤ 4 ∧ 8 * g.t ≤ g.s ∧ g.s ≤ 96 ∧ g.s % 8 = 0 ∧ g.t + 2 ≤ g.k ∧ g.k ≤ 48 := by simp [Gd.ok]
theorem Gd.has_iff {g : Gd} {n i : Int} : g.has n i = true ↔ g.ok = true ∧ 0 ≤ i ∧ i ≤ n - 1 := by simp [Gd.has]

theorem below_on {w w0 w1 : World} (h : Below w.heap.size w w0) (k : Below w0.heap.size w0 w1) : Below w.heap.size w w1 := h.trans (k.mono h.size)
theorem below_alloc (w : World) (ob : Obj) : Below w.heap.size w (w.alloc ob) := (Below.refl _ _).alloc (Nat.le_refl _) _

/-- one Geo in a block of its own -/
structure Bx (w : World) (b : Nat) (g : Gd) : Prop where
  t : w.cell? ⟨b, 0, none⟩ = some (.int .i64 g.t)
  s : w.cell? ⟨b, 1, none⟩ = some (.int .i64 g.s)
  k : w.cell? ⟨b, 2, none⟩ = some (.int .i64 g.k)
  lt : b < w.heap.size
theorem Bx.new (w : World) (g : Gd) (t : TypeId) : Bx (w.alloc (.cells #[.int .i64 g.t, .int .i64 g.s, .int .i64 g.k] t)) w.heap.size g := by
  have hg := heap_alloc_new w (.cells #[.int .i64 g.t, .int .i64 g.s, .int .i64 g.k] t)
  exact ⟨by rw [cell_of_row _ _ 0 _ _ _ hg]; rfl, by rw [cell_of_row _ _ 1 _ _ _ hg]; rfl, by rw [cell_of_row _ _ 2 _ _ _ hg]; rfl, by simp⟩
theorem Bx.below {w w' : World} {b B : Nat} {g : Gd} (h : Bx w b g) (hb : Below B w w') (hB : b < B) : Bx w' b g :=
  ⟨by rw [hb.cell (p := ⟨b, _, none⟩) hB]; exact h.t, by rw [hb.cell (p := ⟨b, _, none⟩) hB]; exact h.s, by rw [hb.cell (p := ⟨b, _, none⟩) hB]; exact h.k, Nat.lt_of_lt_of_le h.lt hb.size⟩
theorem Bx.on {w w' : World} {b : Nat} {g : Gd} (h : Bx w b g) (hb : Below w.heap.size w w') : Bx w' b g := h.below hb h.lt

theorem within_yes {x a b : Int} (h1 : a ≤ x) (h2 : x ≤ b) (w : World) : Calls Try.prog 63 #[.int .i64 x, .int .i64 a, .int .i64 b] w fun e w' => e = .returned (.bool true) ∧ w = w' := by
  go_enter Try.func63, Try.ntmps63
  go_wp2
  go_ret
  exact ⟨rfl, rfl⟩
theorem within_no {x a b : Int} (h : ¬ (a ≤ x ∧ x ≤ b)) (w : World) : Calls Try.prog 63 #[.int .i64 x, .int .i64 a, .int .i64 b] w fun e w' => e = .returned (.bool false) ∧ w = w' := by
  by_cases h1 : a ≤ x
  · have h3 : decide (x ≤ b) = false := decide_eq_false fun q => h ⟨h1, q⟩
    clear h
    go_enter Try.func63, Try.ntmps63
    go_wp2
    go_ret
    exact ⟨rfl, rfl⟩
  · have h3 : decide (a ≤ x) = false := decide_eq_false h1
    clear h h1
    go_enter Try.func63, Try.ntmps63
    go_wp2
    go_ret
    exact ⟨rfl, rfl⟩
theorem within_at {x a b : Int} {r : Bool} (h : decide (a ≤ x ∧ x ≤ b) = r) (w : World) : Calls Try.prog 63 #[.int .i64 x, .int .i64 a, .int .i64 b] w fun e w' => e = .returned (.bool r) ∧ w = w' := by
  rcases r with _ | _
  · exact within_no (of_decide_eq_false h) w
  · obtain ⟨h1, h2⟩ := of_decide_eq_true h
    exact within_yes h1 h2 w

set_option maxHeartbeats 1000000 in
theorem good_any (g : Gd) (w : World) : Calls Try.prog 46 #[.agg #[.int .i64 g.t, .int .i64 g.s, .int .i64 g.k]] w fun e w' => e = .returned (.bool g.ok) ∧ Below w.heap.size w w' := by
  have HX := Bx.new w g 24
  have c1 := HX.t
  have c2 := HX.s
  have c3 := HX.k
  have HB := Lib.hid (below_alloc w (.cells #[.int .i64 g.t, .int .i64 g.s, .int .i64 g.k] 24))
  clear HX
  by_cases h1 : 1 ≤ g.t ∧ g.t ≤ 4
  · have H1 := Lib.hid h1
    clear h1
    have e8 : wrap64 (8 * g.t) = 8 * g.t := by have := H1.out; unfold wrap64; omega
    by_cases h2 : 8 * g.t ≤ g.s ∧ g.s ≤ 96
    · have H2 := Lib.hid h2
      clear h2
      by_cases h3 : g.s % 8 = 0
      · have h3' : (g.s.tmod 8 == 0) = true := by rw [Int.tmod_eq_emod_of_nonneg (by have := H1.out; have := H2.out; omega)]; simp [h3]
        have H3 := Lib.hid h3
        clear h3
        have e2 : wrap64 (g.t + 2) = g.t + 2 := by have := H1.out; unfold wrap64; omega
        by_cases h4 : g.t + 2 ≤ g.k ∧ g.k ≤ 48
        · have H4 := Lib.hid h4
          clear h4
          go_enter Try.func46, Try.ntmps46
          go_wp2_with (first
            | (go_at_call 63; (with_reducible refine (within_yes H1.out.1 H1.out.2 _).mono ?_); rintro e w' ⟨rfl, rfl⟩)
            | (go_at_call 63; rw [e8]; (with_reducible refine (within_yes H2.out.1 H2.out.2 _).mono ?_); rintro e w' ⟨rfl, rfl⟩)
            | (go_at_call 63; rw [e2]; (with_reducible refine (within_yes H4.out.1 H4.out.2 _).mono ?_); rintro e w' ⟨rfl, rfl⟩))
          go_ret
          exact ⟨by rw [Gd.ok_iff.2 ⟨H1.out.1, H1.out.2, H2.out.1, H2.out.2, H3.out, H4.out⟩]; rfl, HB.out⟩
        · have H4 := Lib.hid h4
          clear h4
          have hno : g.ok = false := by
            rcases hq : g.ok with _ | _
            · rfl
            · obtain ⟨_, _, _, _, _, q⟩ := Gd.ok_iff.1 hq; exact absurd q H4.out
          rw [hno]
          go_enter Try.func46, Try.ntmps46
          go_wp2_with (first
            | (go_at_call 63; (with_reducible refine (within_yes H1.out.1 H1.out.2 _).mono ?_); rintro e w' ⟨rfl, rfl⟩)
            | (go_at_call 63; rw [e8]; (with_reducible refine (within_yes H2.out.1 H2.out.2 _).mono ?_); rintro e w' ⟨rfl, rfl⟩)
            | (go_at_call 63; rw [e2]; (with_reducible refine (within_no H4.out _).mono ?_); rintro e w' ⟨rfl, rfl⟩))
          go_ret
          exact ⟨rfl, HB.out⟩
      · have h3' : (g.s.tmod 8 == 0) = false := by rw [Int.tmod_eq_emod_of_nonneg (by have := H1.out; have := H2.out; omega)]; simp [h3]
        have hno : g.ok = false := by
          rcases hq : g.ok with _ | _
          · rfl
          · exact absurd (Gd.ok_iff.1 hq).2.2.2.2.1 h3
        clear h3
        rw [hno]
        go_enter Try.func46, Try.ntmps46
        go_wp2_with (first
          | (go_at_call 63; (with_reducible refine (within_yes H1.out.1 H1.out.2 _).mono ?_); rintro e w' ⟨rfl, rfl⟩)
          | (go_at_call 63; rw [e8]; (with_reducible refine (within_yes H2.out.1 H2.out.2 _).mono ?_); rintro e w' ⟨rfl, rfl⟩))
        go_ret
        exact ⟨rfl, HB.out⟩
    · have H2 := Lib.hid h2
      clear h2
      have hno : g.ok = false := by
        rcases hq : g.ok with _ | _
        · rfl
        · obtain ⟨_, _, q1, q2, _⟩ := Gd.ok_iff.1 hq; exact absurd ⟨q1, q2⟩ H2.out
      rw [hno]
      go_enter Try.func46, Try.ntmps46
      go_wp2_with (first
        | (go_at_call 63; (with_reducible refine (within_yes H1.out.1 H1.out.2 _).mono ?_); rintro e w' ⟨rfl, rfl⟩)
        | (go_at_call 63; rw [e8]; (with_reducible refine (within_no H2.out _).mono ?_); rintro e w' ⟨rfl, rfl⟩))
      go_ret
      exact ⟨rfl, HB.out⟩
  · have H1 := Lib.hid h1
    clear h1
    have hno : g.ok = false := by
      rcases hq : g.ok with _ | _
      · rfl
      · obtain ⟨q1, q2, _⟩ := Gd.ok_iff.1 hq; exact absurd ⟨q1, q2⟩ H1.out
    rw [hno]
    go_enter Try.func46, Try.ntmps46
    go_wp2_with (go_at_call 63; (with_reducible refine (within_no H1.out _).mono ?_); rintro e w' ⟨rfl, rfl⟩)
    go_ret
    exact ⟨rfl, HB.out⟩
end Go.Proofs.Ythooeahpfegjbaa
