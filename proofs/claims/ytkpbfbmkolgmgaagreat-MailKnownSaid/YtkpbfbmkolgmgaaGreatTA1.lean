/-
  The texts Ga, Gb, Ge, Qa, Qb, Qe, Ca, Cb, Cn, Co, Ea, Eb, Ec, Ed, Ee, Fa, Fb of this seat, one behind the other. Conditions: as each theorem says.
-/
import Derived.Test.YtkpbfbmkolgmgaaGreatRows
import Derived.WalkKit
import Derived.WalkSpells
import Derived.WalkLawsBesides
import Derived.Lib.Hide
import Derived.Below
import Derived.Deep.CutBlock
import Derived.Deep.LoopGhost
import Derived.Deep.RegionHeld3
import Derived.Deep.DeepCutAuto
import Derived.Deep.CutRange
import Derived.Deep.QuietTactic
import Derived.BigQuiet
import Derived.StillTailTactics
import Derived.Handy
import Derived.Laws.Shifts
import Derived.Laws.Bits64b
import Derived.Laws.AppendOwn
import Derived.Laws.OwnMore
import Derived.Laws.AppendOwnNone
namespace Go.Proofs.YtkpbfbmkolgmgaaGreat
open Go.RowKit

/-- how many there are -/
structure Gd where
  t : Int
  s : Int
  k : Int
instance : Inhabited Gd := ⟨⟨0, 0, 0⟩⟩
/-- its cells, and itself as a value -/
def Gd.cells (g : Gd) : Array Value := #[.int .i64 g.t, .int .i64 g.s, .int .i64 g.k]
def Gd.ok (g : Gd) : Bool := decide (1 ≤ g.t ∧ g.t ≤ 4 ∧ 8 * g.t ≤ g.s ∧ g.s ≤ 96 ∧ g.s % 8 = 0 ∧ g.t + 2 ≤ g.k ∧ g.k ≤ 48)
def Gd.slot0 (g : Gd) : Int := 16 + g.t * 1208
def Gd.thing0 (g : Gd) : Int := g.slot0 + g.s * 2
def Gd.copy0 (g : Gd) : Int := g.thing0 + g.k * 8
def Gd.has (g : Gd) (n i : Int) : Bool := g.ok && decide (0 ≤ i ∧ i ≤ n - 1)
def Gd.copy (g : Gd) : Int := if g.ok = true then g.copy0 else 0
def Gd.slot (g : Gd) (i : Int) : Int := if g.has g.s i = true then g.slot0 + i * 2 else 0
def Gd.root (g : Gd) (i : Int) : Int := if g.has g.t i = true then i * 8 else 0

theorem Gd.ok_iff {g : Gd} : g.ok = true ↔ 1 ≤ g.t ∧ g.t ≤ 4 ∧ 8 * g.t ≤ g.s ∧ g.s ≤ 96 ∧ g.s % 8 = 0 ∧ g.t + 2 ≤ g.k ∧ g.k ≤ 48 := by simp [Gd.ok]
theorem Gd.has_iff {g : Gd} {n i : Int} : g.has n i = true ↔ g.ok = true ∧ 0 ≤ i ∧ i ≤ n - 1 := by simp [Gd.has]

theorem below_on {w w0 w1 : World} (h : Below w.heap.size w w0) (k : Below w0.heap.size w0 w1) : Below w.heap.size w w1 := h.trans (k.mono h.size)
theorem below_alloc (w : World) (ob : Obj) : Below w.heap.size w (w.alloc ob) := (Below.refl _ _).alloc (Nat.le_refl _) _

/-- one Geo in a block of its own -/
structure Bx (w : World) (b : Nat) (g : Gd) : Prop where
  t : w.cell? ⟨b, 0, none⟩ = some (.int .i64 g.t)
  s : w.cell? ⟨b, 1, none⟩ = some (.int .i64 g.s)
  k : w.cell? ⟨b, 2, none⟩ = some (.int .i64 g.k)
  lt : b < w.heap.size
theorem Bx.new (w : World) (g : Gd) (t : TypeId) : Bx (w.alloc (.cells #[.int .i64 g.t, .int .i64 g.s, .int .i64 g.k] t)) w.heap.size g := by
  have hg := heap_alloc_new w (.cells #[.int .i64 g.t, .int .i64 g.s, .int .i64 g.k] t)
  exact ⟨by rw [cell_of_row _ _ 0 _ _ _ hg]; rfl, by rw [cell_of_row _ _ 1 _ _ _ hg]; rfl, by rw [cell_of_row _ _ 2 _ _ _ hg]; rfl, by simp⟩
theorem Bx.below {w w' : World} {b B : Nat} {g : Gd} (h : Bx w b g) (hb : Below B w w') (hB : b < B) : Bx w' b g :=
  ⟨by rw [hb.cell (p := ⟨b, _, none⟩) hB]; exact h.t, by rw [hb.cell (p := ⟨b, _, none⟩) hB]; exact h.s, by rw [hb.cell (p := ⟨b, _, none⟩) hB]; exact h.k, Nat.lt_of_lt_of_le h.lt hb.size⟩
theorem Bx.on {w w' : World} {b : Nat} {g : Gd} (h : Bx w b g) (hb : Below w.heap.size w w') : Bx w' b g := h.below hb h.lt

theorem within_yes {x a b : Int} (h1 : a ≤ x) (h2 : x ≤ b) (w : World) : Calls Tryz.prog 143 #[.int .i64 x, .int .i64 a, .int .i64 b] w fun e w' => e = .returned (.bool true) ∧ w = w' := by
  go_enter Tryz.func143, Tryz.ntmps143
  go_wp2
  go_ret
  exact ⟨rfl, rfl⟩
theorem within_no {x a b : Int} (h : ¬ (a ≤ x ∧ x ≤ b)) (w : World) : Calls Tryz.prog 143 #[.int .i64 x, .int .i64 a, .int .i64 b] w fun e w' => e = .returned (.bool false) ∧ w = w' := by
  by_cases h1 : a ≤ x
  · have h3 : decide (x ≤ b) = false := decide_eq_false fun q => h ⟨h1, q⟩
    clear h
    go_enter Tryz.func143, Tryz.ntmps143
    go_wp2
    go_ret
    exact ⟨rfl, rfl⟩
  · have h3 : decide (a ≤ x) = false := decide_eq_false h1
    clear h h1
    go_enter Tryz.func143, Tryz.ntmps143
    go_wp2
    go_ret
    exact ⟨rfl, rfl⟩
theorem within_at {x a b : Int} {r : Bool} (h : decide (a ≤ x ∧ x ≤ b) = r) (w : World) : Calls Tryz.prog 143 #[.int .i64 x, .int .i64 a, .int .i64 b] w fun e w' => e = .returned (.bool r) ∧ w = w' := by
  rcases r with _ | _
  · exact within_no (of_decide_eq_false h) w
  · obtain ⟨h1, h2⟩ := of_decide_eq_true h
    exact within_yes h1 h2 w

set_option maxHeartbeats 1000000 in
theorem good_any (g : Gd) (w : World) : Calls Tryz.prog 80 #[.agg #[.int .i64 g.t, .int .i64 g.s, .int .i64 g.k]] w fun e w' => e = .returned (.bool g.ok) ∧ Below w.heap.size w w' := by
  have HX := Bx.new w g 23
  have c1 := HX.t
  have c2 := HX.s
  have c3 := HX.k
  have HB := Lib.hid (below_alloc w (.cells #[.int .i64 g.t, .int .i64 g.s, .int .i64 g.k] 23))
  clear HX
  by_cases h1 : 1 ≤ g.t ∧ g.t ≤ 4
  · have H1 := Lib.hid h1
    clear h1
    have e8 : wrap64 (8 * g.t) = 8 * g.t := by have := H1.out; unfold wrap64; omega
    by_cases h2 : 8 * g.t ≤ g.s ∧ g.s ≤ 96
    · have H2 := Lib.hid h2
      clear h2
      by_cases h3 : g.s % 8 = 0
      · have h3' : (g.s.tmod 8 == 0) = true := by rw [Int.tmod_eq_emod_of_nonneg (by have := H1.out; have := H2.out; omega)]; simp [h3]
        have H3 := Lib.hid h3
        clear h3
        have e2 : wrap64 (g.t + 2) = g.t + 2 := by have := H1.out; unfold wrap64; omega
        by_cases h4 : g.t + 2 ≤ g.k ∧ g.k ≤ 48
        · have H4 := Lib.hid h4
          clear h4
          go_enter Tryz.func80, Tryz.ntmps80
          go_wp2_with (first
            | (go_at_call 143; (with_reducible refine (within_yes H1.out.1 H1.out.2 _).mono ?_); rintro e w' ⟨rfl, rfl⟩)
            | (go_at_call 143; rw [e8]; (with_reducible refine (within_yes H2.out.1 H2.out.2 _).mono ?_); rintro e w' ⟨rfl, rfl⟩)
            | (go_at_call 143; rw [e2]; (with_reducible refine (within_yes H4.out.1 H4.out.2 _).mono ?_); rintro e w' ⟨rfl, rfl⟩))
          go_ret
          exact ⟨by rw [Gd.ok_iff.2 ⟨H1.out.1, H1.out.2, H2.out.1, H2.out.2, H3.out, H4.out⟩]; rfl, HB.out⟩
        · have H4 := Lib.hid h4
          clear h4
          have hno : g.ok = false := by
            rcases hq : g.ok with _ | _
            · rfl
            · obtain ⟨_, _, _, _, _, q⟩ := Gd.ok_iff.1 hq; exact absurd q H4.out
          rw [hno]
          go_enter Tryz.func80, Tryz.ntmps80
          go_wp2_with (first
            | (go_at_call 143; (with_reducible refine (within_yes H1.out.1 H1.out.2 _).mono ?_); rintro e w' ⟨rfl, rfl⟩)
            | (go_at_call 143; rw [e8]; (with_reducible refine (within_yes H2.out.1 H2.out.2 _).mono ?_); rintro e w' ⟨rfl, rfl⟩)
            | (go_at_call 143; rw [e2]; (with_reducible refine (within_no H4.out _).mono ?_); rintro e w' ⟨rfl, rfl⟩))
          go_ret
          exact ⟨rfl, HB.out⟩
      · have h3' : (g.s.tmod 8 == 0) = false := by rw [Int.tmod_eq_emod_of_nonneg (by have := H1.out; have := H2.out; omega)]; simp [h3]
        have hno : g.ok = false := by
          rcases hq : g.ok with _ | _
          · rfl
          · exact absurd (Gd.ok_iff.1 hq).2.2.2.2.1 h3
        clear h3
        rw [hno]
        go_enter Tryz.func80, Tryz.ntmps80
        go_wp2_with (first
          | (go_at_call 143; (with_reducible refine (within_yes H1.out.1 H1.out.2 _).mono ?_); rintro e w' ⟨rfl, rfl⟩)
          | (go_at_call 143; rw [e8]; (with_reducible refine (within_yes H2.out.1 H2.out.2 _).mono ?_); rintro e w' ⟨rfl, rfl⟩))
        go_ret
        exact ⟨rfl, HB.out⟩
    · have H2 := Lib.hid h2
      clear h2
      have hno : g.ok = false := by
        rcases hq : g.ok with _ | _
        · rfl
        · obtain ⟨_, _, q1, q2, _⟩ := Gd.ok_iff.1 hq; exact absurd ⟨q1, q2⟩ H2.out
      rw [hno]
      go_enter Tryz.func80, Tryz.ntmps80
      go_wp2_with (first
        | (go_at_call 143; (with_reducible refine (within_yes H1.out.1 H1.out.2 _).mono ?_); rintro e w' ⟨rfl, rfl⟩)
        | (go_at_call 143; rw [e8]; (with_reducible refine (within_no H2.out _).mono ?_); rintro e w' ⟨rfl, rfl⟩))
      go_ret
      exact ⟨rfl, HB.out⟩
  · have H1 := Lib.hid h1
    clear h1
    have hno : g.ok = false := by
      rcases hq : g.ok with _ | _
      · rfl
      · obtain ⟨q1, q2, _⟩ := Gd.ok_iff.1 hq; exact absurd ⟨q1, q2⟩ H1.out
    rw [hno]
    go_enter Tryz.func80, Tryz.ntmps80
    go_wp2_with (go_at_call 143; (with_reducible refine (within_no H1.out _).mono ?_); rintro e w' ⟨rfl, rfl⟩)
    go_ret
    exact ⟨rfl, HB.out⟩
end Go.Proofs.YtkpbfbmkolgmgaaGreat
namespace Go.Proofs.YtkpbfbmkolgmgaaGreat
open Go.RowKit

theorem wrap_in {z : Int} (h1 : -9223372036854775808 ≤ z) (h2 : z ≤ 9223372036854775807) : IntKind.i64.wrap z = z := by
  rw [IntKind.wrap_i64]
  omega
theorem w64_in {z : Int} (h1 : -9223372036854775808 ≤ z) (h2 : z ≤ 9223372036854775807) : wrap64 z = z := by
  unfold wrap64; omega

theorem good_at {g : Gd} {r : Bool} (h : g.ok = r) (w : World) : Calls Tryz.prog 80 #[.agg #[.int .i64 g.t, .int .i64 g.s, .int .i64 g.k]] w fun e w' => e = .returned (.bool r) ∧ Below w.heap.size w w' := by
  subst h
  exact good_any g w

set_option maxHeartbeats 1000000 in
theorem has_any (g : Gd) (n i : Int) (hn : g.ok = true → 0 ≤ n ∧ n ≤ 1000) (w : World) : Calls Tryz.prog 173 #[.agg #[.int .i64 g.t, .int .i64 g.s, .int .i64 g.k], .int .i64 n, .int .i64 i] w fun e w' => e = .returned (.bool (g.has n i)) ∧ Below w.heap.size w w' := by
  have HX := Bx.new w g 23
  have c1 := HX.t
  have c2 := HX.s
  have c3 := HX.k
  have HB := Lib.hid (below_alloc w (.cells #[.int .i64 g.t, .int .i64 g.s, .int .i64 g.k] 23))
  clear HX
  rcases hg : g.ok with _ | _
  · have HG := Lib.hid hg
    have hh : g.has n i = false := by unfold Gd.has; rw [hg]; rfl
    rw [hh]
    clear hg hn hh
    go_enter Tryz.func173, Tryz.ntmps173
    go_wp2_with (go_at_call 80; (with_reducible refine (good_at HG.out _).mono ?_); rintro e w' ⟨rfl, hb⟩; replace HB := Lib.hid (below_on HB.out hb); clear hb)
    go_ret
    exact ⟨rfl, HB.out⟩
  · have HG := Lib.hid hg
    have e1 : wrap64 (n - 1) = n - 1 := by have := hn hg; unfold wrap64; omega
    obtain ⟨r, hr⟩ : ∃ r, decide (0 ≤ i ∧ i ≤ n - 1) = r := ⟨_, rfl⟩
    have hh : g.has n i = r := by unfold Gd.has; rw [hg, hr]; rfl
    have HR := Lib.hid hr
    rw [hh]
    clear hg hn hh hr
    go_enter Tryz.func173, Tryz.ntmps173
    go_wp2_with (first
      | (go_at_call 80; (with_reducible refine (good_at HG.out _).mono ?_); rintro e w' ⟨rfl, hb⟩; replace HB := Lib.hid (below_on HB.out hb); clear hb)
      | (go_at_call 143; rw [e1]; (with_reducible refine (within_at HR.out _).mono ?_); rintro e w' ⟨rfl, rfl⟩))
    go_ret
    exact ⟨rfl, HB.out⟩
theorem has_at {g : Gd} {n i : Int} {r : Bool} (h : g.has n i = r) (hn : g.ok = true → 0 ≤ n ∧ n ≤ 1000) (w : World) : Calls Tryz.prog 173 #[.agg #[.int .i64 g.t, .int .i64 g.s, .int .i64 g.k], .int .i64 n, .int .i64 i] w fun e w' => e = .returned (.bool r) ∧ Below w.heap.size w w' := by
  subst h
  exact has_any g n i hn w

theorem Gd.ok_t {g : Gd} (h : g.ok = true) : 0 ≤ g.t ∧ g.t ≤ 1000 := by obtain ⟨h1, h2, h3, h4, h5, h6, h7⟩ := Gd.ok_iff.1 h; omega
set_option maxHeartbeats 1000000 in
theorem root_any (g : Gd) (i : Int) (w : World) : Calls Tryz.prog 133 #[.agg #[.int .i64 g.t, .int .i64 g.s, .int .i64 g.k], .int .i64 i] w fun e w' => e = .returned (.int .i64 (g.root i)) ∧ Below w.heap.size w w' := by
  have HX := Bx.new w g 23
  have c1 := HX.t
  have c2 := HX.s
  have c3 := HX.k
  have HB := Lib.hid (below_alloc w (.cells #[.int .i64 g.t, .int .i64 g.s, .int .i64 g.k] 23))
  clear HX
  unfold Gd.root
  rcases hh : g.has g.t i with _ | _
  · have HH := Lib.hid hh
    clear hh
    go_enter Tryz.func133, Tryz.ntmps133
    go_wp2_with (go_at_call 173; (with_reducible refine (has_at HH.out Gd.ok_t _).mono ?_); rintro e w' ⟨rfl, hb⟩; replace HB := Lib.hid (below_on HB.out hb); clear hb)
    go_ret
    exact ⟨rfl, HB.out⟩
  · have HH := Lib.hid hh
    clear hh
    go_enter Tryz.func133, Tryz.ntmps133
    go_wp2_with (go_at_call 173; (with_reducible refine (has_at HH.out Gd.ok_t _).mono ?_); rintro e w' ⟨rfl, hb⟩; replace HB := Lib.hid (below_on HB.out hb); clear hb)
    go_ret
    refine ⟨?_, HB.out⟩
    obtain ⟨h1, h2, h3⟩ := Gd.has_iff.1 HH.out
    have h4 := Gd.ok_t h1
    refine congrArg (fun y : Int => Ending.returned (.int .i64 y)) ?_
    exact w64_in (by omega) (by omega)

theorem plain_any (w : World) : Calls Tryz.prog 70 #[] w fun e w' => e = .returned (.agg #[.int .i64 2, .int .i64 32, .int .i64 16]) ∧ Below w.heap.size w w' := by
  go_enter Tryz.func70, Tryz.ntmps70
  go_wp2
  go_returns
  exact ⟨rfl, below_alloc _ _⟩

/- the contracts with the answer named, over a Geo's numbers -/
theorem good_to {t s k : Int} {r : Bool} (h : Gd.ok ⟨t, s, k⟩ = r) (w : World) : Calls Tryz.prog 80 #[.agg #[.int .i64 t, .int .i64 s, .int .i64 k]] w fun e w' => e = .returned (.bool r) ∧ Below w.heap.size w w' := good_at (g := ⟨t, s, k⟩) h w
theorem root_to {t s k i r : Int} (h : Gd.root ⟨t, s, k⟩ i = r) (w : World) : Calls Tryz.prog 133 #[.agg #[.int .i64 t, .int .i64 s, .int .i64 k], .int .i64 i] w fun e w' => e = .returned (.int .i64 r) ∧ Below w.heap.size w w' := by
  subst h
  exact root_any ⟨t, s, k⟩ i w
end Go.Proofs.YtkpbfbmkolgmgaaGreat
namespace Go.Proofs.YtkpbfbmkolgmgaaGreat
open Go.RowKit


end Go.Proofs.YtkpbfbmkolgmgaaGreat
namespace Go.Proofs.YtkpbfbmkolgmgaaGreat
open Go.RowKit

/-- may a number from 0 to m be -/
def inr (x m : Int) : Bool := decide (0 ≤ x) && decide (x ≤ m)
/-- what rights count as -/
def held (a : Int) : Nat := if inr a 7 = true then a.toNat else 0
/-- both's, one's without the other's, by three bits -/
def land3 (x y : Nat) : Nat := x % 2 * (y % 2) + 2 * (x / 2 % 2 * (y / 2 % 2)) + 4 * (x / 4 % 2 * (y / 4 % 2))
def less3 (x y : Nat) : Nat := x - land3 x y

theorem held_lt (a : Int) : held a < 8 := by
  unfold held
  split
  · next h =>
    unfold inr at h
    simp only [Bool.and_eq_true, decide_eq_true_eq] at h
    omega
  · omega
theorem held_yes {a : Int} (h : inr a 7 = true) : ((held a : Nat) : Int) = a := by
  unfold held
  rw [if_pos h]
  unfold inr at h
  simp only [Bool.and_eq_true, decide_eq_true_eq] at h
  omega
theorem held_no {a : Int} (h : inr a 7 = false) : held a = 0 := by
  unfold held
  rw [h]
  rfl
theorem and_table : ∀ x < 8, ∀ y < 8, bits .and .i64 ((x : Nat) : Int) ((y : Nat) : Int) = ((land3 x y : Nat) : Int) := by decide +kernel
theorem less_table : ∀ x < 8, ∀ y < 8, bits .andNot .i64 ((x : Nat) : Int) ((y : Nat) : Int) = ((less3 x y : Nat) : Int) := by decide +kernel
set_option maxHeartbeats 400000 in
theorem within_any (x m : Int) (w : World) : Calls Tryz.prog 205 #[.int .i64 x, .int .i64 m] w fun e w' => e = .returned (.bool (inr x m)) ∧ w = w' := by
  by_cases h1 : 0 ≤ x <;> by_cases h2 : x ≤ m
  all_goals go_enter Tryz.func205, Tryz.ntmps205
  all_goals go_wp2
  all_goals go_ret
  all_goals exact ⟨by simp [inr, h1, h2], rfl⟩

theorem rgood_any (x : Int) (w : World) : Calls Tryz.prog 202 #[.int .i64 x] w fun e w' => e = .returned (.bool (inr x 7)) ∧ w = w' := by
  go_enter Tryz.func202, Tryz.ntmps202
  go_wp2_with (go_at_call 205; (with_reducible refine (within_any _ _ _).mono ?_); rintro e w' ⟨rfl, rfl⟩)
  go_ret
  exact ⟨rfl, rfl⟩

theorem badge_any (x : Int) (w : World) : Calls Tryz.prog 191 #[.int .i64 x] w fun e w' => e = .returned (.bool (inr x 65535)) ∧ w = w' := by
  go_enter Tryz.func191, Tryz.ntmps191
  go_wp2_with (go_at_call 205; (with_reducible refine (within_any _ _ _).mono ?_); rintro e w' ⟨rfl, rfl⟩)
  go_ret
  exact ⟨rfl, rfl⟩

theorem counted_any (x : Int) (w : World) : Calls Tryz.prog 204 #[.int .i64 x] w fun e w' => e = .returned (.int .i64 ((held x : Nat) : Int)) ∧ w = w' := by
  rcases h : inr x 7 with _ | _
  · have hz := held_no h
    have H := Lib.hid h
    clear h
    go_enter Tryz.func204, Tryz.ntmps204
    go_wp2_with (go_at_call 202; (with_reducible refine (rgood_any _ _).mono ?_); rintro e w' ⟨rfl, rfl⟩; rw [H.out])
    go_ret
    rw [hz]
    exact ⟨rfl, rfl⟩
  · have hz := Lib.hid (held_yes h)
    have H := Lib.hid h
    clear h
    go_enter Tryz.func204, Tryz.ntmps204
    go_wp2_with (go_at_call 202; (with_reducible refine (rgood_any _ _).mono ?_); rintro e w' ⟨rfl, rfl⟩; rw [H.out])
    go_ret
    rw [hz.out]
    exact ⟨rfl, rfl⟩

theorem both_any (a b : Int) (w : World) : Calls Tryz.prog 190 #[.int .i64 a, .int .i64 b] w fun e w' => e = .returned (.int .i64 ((land3 (held a) (held b) : Nat) : Int)) ∧ w = w' := by
  have HE := Lib.hid (and_table _ (held_lt a) _ (held_lt b))
  go_enter Tryz.func190, Tryz.ntmps190
  go_wp2_with (go_at_call 204; (with_reducible refine (counted_any _ _).mono ?_); rintro e w' ⟨rfl, rfl⟩)
  go_ret
  rw [HE.out]
  exact ⟨rfl, rfl⟩

theorem less_any (a b : Int) (w : World) : Calls Tryz.prog 203 #[.int .i64 a, .int .i64 b] w fun e w' => e = .returned (.int .i64 ((less3 (held a) (held b) : Nat) : Int)) ∧ w = w' := by
  have HE := Lib.hid (less_table _ (held_lt a) _ (held_lt b))
  go_enter Tryz.func203, Tryz.ntmps203
  go_wp2_with (go_at_call 204; (with_reducible refine (counted_any _ _).mono ?_); rintro e w' ⟨rfl, rfl⟩)
  go_ret
  rw [HE.out]
  exact ⟨rfl, rfl⟩

theorem isin_any (a b : Int) (w : World) : Calls Tryz.prog 187 #[.int .i64 a, .int .i64 b] w fun e w' => e = .returned (.bool (less3 (held a) (held b) == 0)) ∧ w = w' := by
  go_enter Tryz.func187, Tryz.ntmps187
  go_wp2_with (go_at_call 203; (with_reducible refine (less_any _ _ _).mono ?_); rintro e w' ⟨rfl, rfl⟩)
  go_ret
  refine ⟨?_, rfl⟩
  congr 2
  generalize less3 (held a) (held b) = z
  cases z <;> rfl
end Go.Proofs.YtkpbfbmkolgmgaaGreat
namespace Go.Proofs.YtkpbfbmkolgmgaaGreat
open Go.RowKit

def lt1 : Nat → ByteArray
  | 0 => ⟨#[114]⟩
  | 1 => ⟨#[119]⟩
  | _ => ⟨#[103]⟩
/-- the letters of the first i bits, without the - -/
def part : Nat → Nat → ByteArray
  | _, 0 => ⟨#[]⟩
  | x, i + 1 => if x / 2 ^ i % 2 = 1 then part x i ++ lt1 i else part x i
end Go.Proofs.YtkpbfbmkolgmgaaGreat
namespace Go.Proofs.YtkpbfbmkolgmgaaGreat
open Go.RowKit

end Go.Proofs.YtkpbfbmkolgmgaaGreat
namespace Go.Proofs.YtkpbfbmkolgmgaaGreat
open Go.RowKit

/-- a capability: its kind, its thing, its rights, its badge -/
structure Cp where
  ty : Int
  th : Int
  ri : Int
  ba : Int
def Cp.val (c : Cp) : Value := .agg #[.int .i64 c.ty, .int .i64 c.th, .int .i64 c.ri, .int .i64 c.ba]
def Cp.eq (c d : Cp) : Bool := c.ty == d.ty && (c.th == d.th && (c.ri == d.ri && c.ba == d.ba))
def Cp.none : Cp := ⟨0, 0, 0, 0⟩
def Cp.non (c : Cp) : Bool := c.eq .none
def Cp.badged (c : Cp) : Bool := c.ty == 3 || c.ty == 4
def Cp.ofThing (c : Cp) : Bool := decide (1 ≤ c.ty) && (decide (c.ty ≤ 5) && (decide (0 ≤ c.th) && decide (c.th < 48)))
def Cp.fits (c : Cp) : Bool := inr c.ri 7 && (inr c.ba 65535 && (c.ba == 0 || c.badged))
def Cp.good (c : Cp) : Bool := c.non || (c.ofThing && c.fits)

theorem eq24 (c d : Cp) (w : World) : (Op.equalIn 10000 62 c.val d.val).run Tryz.prog w = .ok (c.eq d) w := by
  obtain ⟨a, b, e, f⟩ := c
  obtain ⟨a', b', e', f'⟩ := d
  unfold Cp.val
  by_cases h1 : a = a' <;> by_cases h2 : b = b' <;> by_cases h3 : e = e' <;> by_cases h4 : f = f'
  all_goals simp [go_sem, Cp.eq, h1, h2, h3, h4]
theorem non_any (c : Cp) (w : World) : Calls Tryz.prog 85 #[c.val] w fun e w' => e = .returned (.bool c.non) ∧ Below w.heap.size w w' := by
  have heq : ∀ w, (Op.equalIn 10000 62 (.agg #[.int .i64 c.ty, .int .i64 c.th, .int .i64 c.ri, .int .i64 c.ba]) (.agg #[.int .i64 0, .int .i64 0, .int .i64 0, .int .i64 0])).run Tryz.prog w = .ok c.non w := fun w => eq24 c .none w
  unfold Cp.val
  generalize c.non = z at heq ⊢
  go_enter Tryz.func85, Tryz.ntmps85
  go_wp2
  go_ret
  exact ⟨rfl, (Below.refl _ _).alloc (Nat.le_refl _) _⟩
theorem badged_any (c : Cp) (w : World) : Calls Tryz.prog 192 #[c.val] w fun e w' => e = .returned (.bool c.badged) ∧ Below w.heap.size w w' := by
  obtain ⟨a, b, d, f⟩ := c
  unfold Cp.val
  by_cases h1 : a = 3
  all_goals go_enter Tryz.func192, Tryz.ntmps192
  all_goals go_wp2
  all_goals go_ret
  all_goals exact ⟨by simp [Cp.badged, h1], (Below.refl _ _).alloc (Nat.le_refl _) _⟩
theorem ofthing_any (c : Cp) (w : World) : Calls Tryz.prog 184 #[c.val] w fun e w' => e = .returned (.bool c.ofThing) ∧ Below w.heap.size w w' := by
  obtain ⟨a, b, d, f⟩ := c
  unfold Cp.val
  by_cases h1 : 1 ≤ a
  · by_cases h2 : a ≤ 5
    · by_cases h3 : 0 ≤ b
      · go_enter Tryz.func184, Tryz.ntmps184
        go_wp2
        go_ret
        exact ⟨by simp [Cp.ofThing, h1, h2, h3], (Below.refl _ _).alloc (Nat.le_refl _) _⟩
      · go_enter Tryz.func184, Tryz.ntmps184
        go_wp2
        go_ret
        exact ⟨by simp [Cp.ofThing]; omega, (Below.refl _ _).alloc (Nat.le_refl _) _⟩
    · go_enter Tryz.func184, Tryz.ntmps184
      go_wp2
      go_ret
      exact ⟨by simp [Cp.ofThing]; omega, (Below.refl _ _).alloc (Nat.le_refl _) _⟩
  · go_enter Tryz.func184, Tryz.ntmps184
    go_wp2
    go_ret
    exact ⟨by simp [Cp.ofThing]; omega, (Below.refl _ _).alloc (Nat.le_refl _) _⟩

section
variable {x a b d f : Int} {z : Bool}
theorem non_at (h : Cp.non ⟨a, b, d, f⟩ = z) (w : World) : Calls Tryz.prog 85 #[.agg #[.int .i64 a, .int .i64 b, .int .i64 d, .int .i64 f]] w fun e w' => e = .returned (.bool z) ∧ Below w.heap.size w w' := h ▸ non_any ⟨a, b, d, f⟩ w
theorem badged_at (h : Cp.badged ⟨a, b, d, f⟩ = z) (w : World) : Calls Tryz.prog 192 #[.agg #[.int .i64 a, .int .i64 b, .int .i64 d, .int .i64 f]] w fun e w' => e = .returned (.bool z) ∧ Below w.heap.size w w' := h ▸ badged_any ⟨a, b, d, f⟩ w
theorem ofthing_at (h : Cp.ofThing ⟨a, b, d, f⟩ = z) (w : World) : Calls Tryz.prog 184 #[.agg #[.int .i64 a, .int .i64 b, .int .i64 d, .int .i64 f]] w fun e w' => e = .returned (.bool z) ∧ Below w.heap.size w w' := h ▸ ofthing_any ⟨a, b, d, f⟩ w
theorem rgood_at (h : inr x 7 = z) (w : World) : Calls Tryz.prog 202 #[.int .i64 x] w fun e w' => e = .returned (.bool z) ∧ w = w' := h ▸ rgood_any x w
theorem badge_at (h : inr x 65535 = z) (w : World) : Calls Tryz.prog 191 #[.int .i64 x] w fun e w' => e = .returned (.bool z) ∧ w = w' := h ▸ badge_any x w
end

theorem fits_any (c : Cp) (w : World) : Calls Tryz.prog 185 #[c.val] w fun e w' => e = .returned (.bool c.fits) ∧ Below w.heap.size w w' := by
  obtain ⟨a, b, d, f⟩ := c
  unfold Cp.val
  rcases h1 : inr d 7 with _ | _
  · have H1 := Lib.hid h1
    clear h1
    go_enter Tryz.func185, Tryz.ntmps185
    go_wp2_with (go_at_call 202; (with_reducible refine (rgood_at H1.out _).mono ?_); rintro e w' ⟨rfl, rfl⟩)
    go_ret
    exact ⟨by simp [Cp.fits, H1.out], (Below.refl _ _).alloc (Nat.le_refl _) _⟩
  have H1 := Lib.hid h1
  clear h1
  rcases h2 : inr f 65535 with _ | _
  · have H2 := Lib.hid h2
    clear h2
    go_enter Tryz.func185, Tryz.ntmps185
    go_wp2_with (first | (go_at_call 202; (with_reducible refine (rgood_at H1.out _).mono ?_); rintro e w' ⟨rfl, rfl⟩) | (go_at_call 191; (with_reducible refine (badge_at H2.out _).mono ?_); rintro e w' ⟨rfl, rfl⟩))
    go_ret
    exact ⟨by simp [Cp.fits, H1.out, H2.out], (Below.refl _ _).alloc (Nat.le_refl _) _⟩
  have H2 := Lib.hid h2
  clear h2
  by_cases h3 : f = 0
  · subst h3
    go_enter Tryz.func185, Tryz.ntmps185
    go_wp2_with (first | (go_at_call 202; (with_reducible refine (rgood_at H1.out _).mono ?_); rintro e w' ⟨rfl, rfl⟩) | (go_at_call 191; (with_reducible refine (badge_at H2.out _).mono ?_); rintro e w' ⟨rfl, rfl⟩))
    go_ret
    exact ⟨by simp [Cp.fits, H1.out, H2.out], (Below.refl _ _).alloc (Nat.le_refl _) _⟩
  obtain ⟨z, hz⟩ : ∃ z, Cp.badged ⟨a, b, d, f⟩ = z := ⟨_, rfl⟩
  have HZ := Lib.hid hz
  clear hz
  go_enter Tryz.func185, Tryz.ntmps185
  go_wp2_with (first | (go_at_call 202; (with_reducible refine (rgood_at H1.out _).mono ?_); rintro e w' ⟨rfl, rfl⟩) | (go_at_call 191; (with_reducible refine (badge_at H2.out _).mono ?_); rintro e w' ⟨rfl, rfl⟩) | (go_at_call 192; (with_reducible refine (badged_at HZ.out _).mono ?_); rintro e w' ⟨rfl, hb⟩))
  go_ret
  exact ⟨by simp [Cp.fits, H1.out, H2.out, HZ.out], below_on ((Below.refl _ _).alloc (Nat.le_refl _) _) hb⟩

theorem fits_at {a b d f : Int} {z : Bool} (h : Cp.fits ⟨a, b, d, f⟩ = z) (w : World) : Calls Tryz.prog 185 #[.agg #[.int .i64 a, .int .i64 b, .int .i64 d, .int .i64 f]] w fun e w' => e = .returned (.bool z) ∧ Below w.heap.size w w' := h ▸ fits_any ⟨a, b, d, f⟩ w

theorem cell4 {w : World} {t : TypeId} {a0 a1 a2 a3 : Value} (k : Nat) (u : Value) (h : [a0, a1, a2, a3][k]? = some u) : (w.alloc (.cells #[a0, a1, a2, a3] t)).cell? ⟨w.heap.size, k, none⟩ = some u := by
  rw [cell_of_row _ _ k _ _ _ (heap_alloc_new w _)]
  simpa using h

/-- a capability in a block of the call's own -/
structure Fr (W w : World) (g : Nat) (a b d f : Int) : Prop where
  c0 : w.cell? ⟨g, 0, none⟩ = some (.int .i64 a)
  c1 : w.cell? ⟨g, 1, none⟩ = some (.int .i64 b)
  c2 : w.cell? ⟨g, 2, none⟩ = some (.int .i64 d)
  c3 : w.cell? ⟨g, 3, none⟩ = some (.int .i64 f)
  free : ∀ j, w.frozen? ⟨g, j, none⟩ = false
  lt : g < w.heap.size
  base : W.heap.size ≤ g
  old : Below W.heap.size W w
section
variable {W w w' : World} {g k : Nat} {a b d f a' b' d' f' : Int}
theorem Fr.new (w : World) (a b d f : Int) (t : TypeId) : Fr w (w.alloc (.cells #[.int .i64 a, .int .i64 b, .int .i64 d, .int .i64 f] t)) w.heap.size a b d f :=
  ⟨cell4 0 _ rfl, cell4 1 _ rfl, cell4 2 _ rfl, cell4 3 _ rfl, fun j => frozen_of_row _ _ j _ _ (heap_alloc_new w _), by simp, Nat.le_refl _, (Below.refl _ _).alloc (Nat.le_refl _) _⟩
theorem Fr.on (h : Fr W w g a b d f) (hb : Below w.heap.size w w') : Fr W w' g a b d f :=
  ⟨by rw [hb.cell (p := ⟨g, _, none⟩) h.lt]; exact h.c0, by rw [hb.cell (p := ⟨g, _, none⟩) h.lt]; exact h.c1, by rw [hb.cell (p := ⟨g, _, none⟩) h.lt]; exact h.c2, by rw [hb.cell (p := ⟨g, _, none⟩) h.lt]; exact h.c3,
    fun j => by rw [World.frozen?_of_block (w := w) (a := ⟨g, j, none⟩) (hb.block g h.lt)]; exact h.free j, Nat.lt_of_lt_of_le h.lt hb.size, h.base, below_on h.old hb⟩
theorem Fr.alloc (h : Fr W w g a b d f) (o : Obj) : Fr W (w.alloc o) g a b d f := h.on (below_alloc _ _)
theorem Fr.drew (h : Fr W w g a b d f) : Fr W w.drew g a b d f := ⟨h.c0, h.c1, h.c2, h.c3, h.free, h.lt, h.base, h.old.drew⟩
/-- one more, made behind it -/
theorem Fr.also (h : Below W.heap.size W w) (a b d f : Int) (t : TypeId) : Fr W (w.alloc (.cells #[.int .i64 a, .int .i64 b, .int .i64 d, .int .i64 f] t)) w.heap.size a b d f :=
  have n := Fr.new w a b d f t
  ⟨n.c0, n.c1, n.c2, n.c3, n.free, n.lt, h.size, below_on h n.old⟩
end

set_option maxHeartbeats 1000000 in
theorem cgood_any (c : Cp) (w : World) : Calls Tryz.prog 146 #[c.val] w fun e w' => e = .returned (.bool c.good) ∧ Below w.heap.size w w' := by
  obtain ⟨a, b, d, f⟩ := c
  unfold Cp.val
  obtain ⟨x, hx⟩ : ∃ z, Cp.non ⟨a, b, d, f⟩ = z := ⟨_, rfl⟩
  obtain ⟨y, hy⟩ : ∃ z, Cp.ofThing ⟨a, b, d, f⟩ = z := ⟨_, rfl⟩
  obtain ⟨z, hz⟩ : ∃ z, Cp.fits ⟨a, b, d, f⟩ = z := ⟨_, rfl⟩
  have hg : Cp.good ⟨a, b, d, f⟩ = (x || (y && z)) := by rw [Cp.good, hx, hy, hz]
  rw [hg]
  have HX := Lib.hid hx
  have HY := Lib.hid hy
  have HZ := Lib.hid hz
  have hK := Fr.new w a b d f 62
  clear hx hy hz hg
  show Calls Tryz.prog 146 #[.agg #[.int .i64 a, .int .i64 b, .int .i64 d, .int .i64 f]] w _
  go_enter Tryz.func146, Tryz.ntmps146
  go_wp2_with fail
  generalize w.alloc (.cells #[.int .i64 a, .int .i64 b, .int .i64 d, .int .i64 f] 62) = w1 at hK ⊢
  refine (non_at HX.out w1).mono ?_
  rintro e w2 ⟨rfl, hb⟩
  have K2 := Lib.hid (hK.on hb)
  clear hK hb
  rcases x with _ | _
  · have c0 := K2.out.c0
    have c1 := K2.out.c1
    have c2 := K2.out.c2
    have c3 := K2.out.c3
    go_wp2_with fail
    refine (ofthing_at HY.out w2).mono ?_
    rintro e w3 ⟨rfl, hb⟩
    have K3 := Lib.hid (K2.out.on hb)
    clear c0 c1 c2 c3 K2 hb
    rcases y with _ | _
    · go_wp2
      go_ret
      exact ⟨rfl, K3.out.old⟩
    · have c0 := K3.out.c0
      have c1 := K3.out.c1
      have c2 := K3.out.c2
      have c3 := K3.out.c3
      go_wp2_with (go_at_call 185; (with_reducible refine (fits_at HZ.out _).mono ?_); rintro e w4 ⟨rfl, hb⟩)
      go_ret
      exact ⟨by simp, (K3.out.on hb).old⟩
  · go_wp2
    go_ret
    exact ⟨rfl, K2.out.old⟩
theorem cgood_at {a b d f : Int} {z : Bool} (h : Cp.good ⟨a, b, d, f⟩ = z) (w : World) : Calls Tryz.prog 146 #[.agg #[.int .i64 a, .int .i64 b, .int .i64 d, .int .i64 f]] w fun e w' => e = .returned (.bool z) ∧ Below w.heap.size w w' := h ▸ cgood_any ⟨a, b, d, f⟩ w
end Go.Proofs.YtkpbfbmkolgmgaaGreat
namespace Go.Proofs.YtkpbfbmkolgmgaaGreat
open Go.RowKit

/-- is all that one allows allowed by another one -/
def Cp.less (a b : Cp) : Bool := a.non || (a.ty == b.ty && (a.th == b.th && ((less3 (held a.ri) (held b.ri) == 0) && (b.ba == 0 || b.ba == a.ba))))
theorem isin_at {x y : Int} {b : Bool} (h : (less3 (held x) (held y) == 0) = b) (w : World) : Calls Tryz.prog 187 #[.int .i64 x, .int .i64 y] w fun e w' => e = .returned (.bool b) ∧ w = w' := h ▸ isin_any x y w

set_option maxHeartbeats 2000000 in
theorem cless_any (a b : Cp) (w : World) : Calls Tryz.prog 149 #[a.val, b.val] w fun e w' => e = .returned (.bool (a.less b)) ∧ Below w.heap.size w w' := by
  obtain ⟨a0, a1, a2, a3⟩ := a
  obtain ⟨b0, b1, b2, b3⟩ := b
  unfold Cp.val
  obtain ⟨x, hx⟩ : ∃ z, Cp.non ⟨a0, a1, a2, a3⟩ = z := ⟨_, rfl⟩
  obtain ⟨y, hy⟩ : ∃ z, (less3 (held a2) (held b2) == 0) = z := ⟨_, rfl⟩
  have hg : Cp.less ⟨a0, a1, a2, a3⟩ ⟨b0, b1, b2, b3⟩ = (x || (a0 == b0 && (a1 == b1 && (y && (b3 == 0 || b3 == a3))))) := by rw [Cp.less, hx, hy]
  rw [hg]
  have HX := Lib.hid hx
  have HY := Lib.hid hy
  have hK := (Fr.new w a0 a1 a2 a3 62).alloc (.cells #[.int .i64 b0, .int .i64 b1, .int .i64 b2, .int .i64 b3] 62)
  have hJ := Fr.also (W := w) (w := w.alloc (.cells #[.int .i64 a0, .int .i64 a1, .int .i64 a2, .int .i64 a3] 62)) (below_alloc _ _) b0 b1 b2 b3 62
  rw [show (w.alloc (.cells #[.int .i64 a0, .int .i64 a1, .int .i64 a2, .int .i64 a3] 62)).heap.size = w.heap.size + 1 by simp] at hJ
  clear hx hy hg
  show Calls Tryz.prog 149 #[.agg #[.int .i64 a0, .int .i64 a1, .int .i64 a2, .int .i64 a3], .agg #[.int .i64 b0, .int .i64 b1, .int .i64 b2, .int .i64 b3]] w _
  go_enter Tryz.func149, Tryz.ntmps149
  go_wp2_with fail
  generalize (w.alloc (.cells #[.int .i64 a0, .int .i64 a1, .int .i64 a2, .int .i64 a3] 62)).alloc (.cells #[.int .i64 b0, .int .i64 b1, .int .i64 b2, .int .i64 b3] 62) = w1 at hK hJ ⊢
  refine (non_at HX.out w1).mono ?_
  rintro e w2 ⟨rfl, hb⟩
  have K2 := Lib.hid (hK.on hb)
  have J2 := Lib.hid (hJ.on hb)
  clear hK hJ hb
  rcases x with _ | _
  · have c0 := K2.out.c0
    have c1 := K2.out.c1
    have c2 := K2.out.c2
    have c3 := K2.out.c3
    have d0 := J2.out.c0
    have d1 := J2.out.c1
    have d2 := J2.out.c2
    have d3 := J2.out.c3
    by_cases h1 : a0 = b0
    · subst h1
      by_cases h2 : a1 = b1
      · subst h2
        rcases y with _ | _
        · go_wp2_with (go_at_call 187; (with_reducible refine (isin_at HY.out _).mono ?_); rintro e w3 ⟨rfl, rfl⟩)
          go_ret
          exact ⟨by simp, K2.out.old⟩
        · by_cases h3 : b3 = 0
          · subst h3
            go_wp2_with (go_at_call 187; (with_reducible refine (isin_at HY.out _).mono ?_); rintro e w3 ⟨rfl, rfl⟩)
            go_ret
            exact ⟨by simp, K2.out.old⟩
          · go_wp2_with (go_at_call 187; (with_reducible refine (isin_at HY.out _).mono ?_); rintro e w3 ⟨rfl, rfl⟩)
            go_ret
            exact ⟨by simp, K2.out.old⟩
      · go_wp2
        go_ret
        exact ⟨by simp [h2], K2.out.old⟩
    · go_wp2
      go_ret
      exact ⟨by simp [h1], K2.out.old⟩
  · go_wp2
    go_ret
    exact ⟨rfl, K2.out.old⟩

/-- those of its rights alone that others are -/
def Cp.cut (c : Cp) (r : Int) : Cp := if c.good = true then ⟨c.ty, c.th, ((land3 (held c.ri) (held r) : Nat) : Int), c.ba⟩ else .none
theorem both_at {x y : Int} {m : Nat} (h : land3 (held x) (held y) = m) (w : World) : Calls Tryz.prog 190 #[.int .i64 x, .int .i64 y] w fun e w' => e = .returned (.int .i64 (m : Int)) ∧ w = w' := h ▸ both_any x y w

/-- another capability is stored there -/
def put4 (w : World) (g : Nat) (a b d f : Int) : World := (((w.setCell ⟨g, 0, none⟩ (.int .i64 a)).setCell ⟨g, 1, none⟩ (.int .i64 b)).setCell ⟨g, 2, none⟩ (.int .i64 d)).setCell ⟨g, 3, none⟩ (.int .i64 f)
theorem set_ne (w : World) (b i j : Nat) (v : Value) (h : i ≠ j) : (w.setCell ⟨b, i, none⟩ v).cell? ⟨b, j, none⟩ = w.cell? ⟨b, j, none⟩ := World.cell?_setCell_other _ _ _ _ (fun q => h (by injection q))
theorem below_set {W w : World} {g j : Nat} {v : Value} (h : Below W.heap.size W w) (hb : W.heap.size ≤ g) : Below W.heap.size W (w.setCell ⟨g, j, none⟩ v) :=
  h.trans ⟨rfl, rfl, rfl, by simp [World.setCell], fun k hk => Below.heap_setCell _ _ _ _ (by show k ≠ g; omega)⟩
section
variable {W w : World} {g : Nat} {a b d f a' b' d' f' : Int}
theorem Fr.set0 (h : Fr W w g a b d f) (v : Int) : Fr W (w.setCell ⟨g, 0, none⟩ (.int .i64 v)) g v b d f :=
  ⟨World.cell?_setCell_same _ _ _ h.c0, (set_ne _ _ _ _ _ (by omega)).trans h.c1, (set_ne _ _ _ _ _ (by omega)).trans h.c2, (set_ne _ _ _ _ _ (by omega)).trans h.c3, fun j => by rw [World.frozen?_setCell]; exact h.free j, by simpa [World.setCell] using h.lt, h.base, below_set h.old h.base⟩
theorem Fr.set1 (h : Fr W w g a b d f) (v : Int) : Fr W (w.setCell ⟨g, 1, none⟩ (.int .i64 v)) g a v d f :=
  ⟨(set_ne _ _ _ _ _ (by omega)).trans h.c0, World.cell?_setCell_same _ _ _ h.c1, (set_ne _ _ _ _ _ (by omega)).trans h.c2, (set_ne _ _ _ _ _ (by omega)).trans h.c3, fun j => by rw [World.frozen?_setCell]; exact h.free j, by simpa [World.setCell] using h.lt, h.base, below_set h.old h.base⟩
theorem Fr.set2 (h : Fr W w g a b d f) (v : Int) : Fr W (w.setCell ⟨g, 2, none⟩ (.int .i64 v)) g a b v f :=
  ⟨(set_ne _ _ _ _ _ (by omega)).trans h.c0, (set_ne _ _ _ _ _ (by omega)).trans h.c1, World.cell?_setCell_same _ _ _ h.c2, (set_ne _ _ _ _ _ (by omega)).trans h.c3, fun j => by rw [World.frozen?_setCell]; exact h.free j, by simpa [World.setCell] using h.lt, h.base, below_set h.old h.base⟩
theorem Fr.set3 (h : Fr W w g a b d f) (v : Int) : Fr W (w.setCell ⟨g, 3, none⟩ (.int .i64 v)) g a b d v :=
  ⟨(set_ne _ _ _ _ _ (by omega)).trans h.c0, (set_ne _ _ _ _ _ (by omega)).trans h.c1, (set_ne _ _ _ _ _ (by omega)).trans h.c2, World.cell?_setCell_same _ _ _ h.c3, fun j => by rw [World.frozen?_setCell]; exact h.free j, by simpa [World.setCell] using h.lt, h.base, below_set h.old h.base⟩
theorem Fr.other (h : Fr W w g a b d f) {k : Nat} (hn : g ≠ k) (hk : W.heap.size ≤ k) (j : Nat) (v : Value) : Fr W (w.setCell ⟨k, j, none⟩ v) g a b d f :=
  have q : ∀ i, (⟨k, j, none⟩ : Addr) ≠ ⟨g, i, none⟩ := fun i q => hn (by injection q with q1; exact q1.symm)
  ⟨(World.cell?_setCell_other _ _ _ _ (q 0)).trans h.c0, (World.cell?_setCell_other _ _ _ _ (q 1)).trans h.c1, (World.cell?_setCell_other _ _ _ _ (q 2)).trans h.c2, (World.cell?_setCell_other _ _ _ _ (q 3)).trans h.c3,
    fun j => by rw [World.frozen?_setCell]; exact h.free j, by simpa [World.setCell] using h.lt, h.base, below_set h.old hk⟩
theorem Fr.put (h : Fr W w g a b d f) (a' b' d' f' : Int) : Fr W (put4 w g a' b' d' f') g a' b' d' f' := (((h.set0 a').set1 b').set2 d').set3 f'
end

set_option maxHeartbeats 2000000 in
theorem cut_no {a b d f : Int} (h : Cp.good ⟨a, b, d, f⟩ = false) (r : Int) (w : World) : Calls Tryz.prog 166 #[.agg #[.int .i64 a, .int .i64 b, .int .i64 d, .int .i64 f], .int .i64 r] w fun e w' => e = .returned Cp.none.val ∧ Below w.heap.size w w' := by
  have HG := Lib.hid h
  have hK := (Fr.new w a b d f 62).alloc (.cells #[.int .i64 0, .int .i64 0, .int .i64 0, .int .i64 0] 62)
  have hJ := Fr.also (W := w) (w := w.alloc (.cells #[.int .i64 a, .int .i64 b, .int .i64 d, .int .i64 f] 62)) (below_alloc _ _) 0 0 0 0 62
  rw [show (w.alloc (.cells #[.int .i64 a, .int .i64 b, .int .i64 d, .int .i64 f] 62)).heap.size = w.heap.size + 1 by simp] at hJ
  clear h
  go_enter Tryz.func166, Tryz.ntmps166
  go_wp2_with fail
  generalize (w.alloc (.cells #[.int .i64 a, .int .i64 b, .int .i64 d, .int .i64 f] 62)).alloc (.cells #[.int .i64 0, .int .i64 0, .int .i64 0, .int .i64 0] 62) = w1 at hK hJ ⊢
  refine (cgood_at HG.out w1).mono ?_
  rintro e w2 ⟨rfl, hb⟩
  have K2 := Lib.hid (hK.on hb)
  have J2 := Lib.hid (hJ.on hb)
  clear hK hJ hb
  have d0 := J2.out.c0
  have d1 := J2.out.c1
  have d2 := J2.out.c2
  have d3 := J2.out.c3
  have f0 := J2.out.free 0
  have f1 := J2.out.free 1
  have f2 := J2.out.free 2
  have f3 := J2.out.free 3
  go_wp2
  have q := J2.out.put 0 0 0 0
  have e0 := q.c0
  have e1 := q.c1
  have e2 := q.c2
  have e3 := q.c3
  unfold put4 at e0 e1 e2 e3
  refine bodyPost_ret (by simp [results, Tryz.results166, go_sem, e0, e1, e2, e3]; rfl) rfl ?_
  exact ⟨rfl, q.old⟩

set_option maxHeartbeats 2000000 in
theorem cut_yes {a b d f : Int} {m : Nat} {r : Int} (h : Cp.good ⟨a, b, d, f⟩ = true) (hm : land3 (held d) (held r) = m) (w : World) :
    Calls Tryz.prog 166 #[.agg #[.int .i64 a, .int .i64 b, .int .i64 d, .int .i64 f], .int .i64 r] w fun e w' => e = .returned (Cp.val ⟨a, b, (m : Int), f⟩) ∧ Below w.heap.size w w' := by
  have HG := Lib.hid h
  have HM := Lib.hid hm
  have hK := (Fr.new w a b d f 62).alloc (.cells #[.int .i64 0, .int .i64 0, .int .i64 0, .int .i64 0] 62)
  have hJ := Fr.also (W := w) (w := w.alloc (.cells #[.int .i64 a, .int .i64 b, .int .i64 d, .int .i64 f] 62)) (below_alloc _ _) 0 0 0 0 62
  rw [show (w.alloc (.cells #[.int .i64 a, .int .i64 b, .int .i64 d, .int .i64 f] 62)).heap.size = w.heap.size + 1 by simp] at hJ
  clear h hm
  go_enter Tryz.func166, Tryz.ntmps166
  go_wp2_with fail
  generalize (w.alloc (.cells #[.int .i64 a, .int .i64 b, .int .i64 d, .int .i64 f] 62)).alloc (.cells #[.int .i64 0, .int .i64 0, .int .i64 0, .int .i64 0] 62) = w1 at hK hJ ⊢
  refine (cgood_at HG.out w1).mono ?_
  rintro e w2 ⟨rfl, hb⟩
  have K2 := Lib.hid (hK.on hb)
  have J2 := Lib.hid (hJ.on hb)
  clear hK hJ hb
  have c2 := K2.out.c2
  have k2 := K2.out.free 2
  go_wp2_with fail
  refine (both_at HM.out w2).mono ?_
  rintro e w3 ⟨rfl, rfl⟩
  have k0 := K2.out.c0
  have k1 := K2.out.c1
  have k3 := K2.out.c3
  have d0 := J2.out.c0
  have d1 := J2.out.c1
  have d2 := J2.out.c2
  have d3 := J2.out.c3
  have f0 := J2.out.free 0
  have f1 := J2.out.free 1
  have f2 := J2.out.free 2
  have f3 := J2.out.free 3
  go_wp2
  have q := (J2.out.other (k := w.heap.size) (by omega) (Nat.le_refl _) 2 (.int .i64 (m : Int))).put a b m f
  have e0 := q.c0
  have e1 := q.c1
  have e2 := q.c2
  have e3 := q.c3
  unfold put4 at e0 e1 e2 e3
  refine bodyPost_ret (by simp [results, Tryz.results166, go_sem, e0, e1, e2, e3]; rfl) rfl ?_
  exact ⟨rfl, q.old⟩

theorem cut_any (c : Cp) (r : Int) (w : World) : Calls Tryz.prog 166 #[c.val, .int .i64 r] w fun e w' => e = .returned (c.cut r).val ∧ Below w.heap.size w w' := by
  obtain ⟨a, b, d, f⟩ := c
  rcases h : Cp.good ⟨a, b, d, f⟩ with _ | _
  · have e : Cp.cut ⟨a, b, d, f⟩ r = .none := by rw [Cp.cut, h]; rfl
    rw [e]
    exact cut_no h r w
  · have e : Cp.cut ⟨a, b, d, f⟩ r = ⟨a, b, ((land3 (held d) (held r) : Nat) : Int), f⟩ := by rw [Cp.cut, h]; rfl
    rw [e]
    exact cut_yes h rfl w

/-- with a badge: what it is, and how it ended -/
def Cp.stamp (c : Cp) (n : Int) : Cp × Int :=
  if c.good = true ∧ inr n 65535 = true ∧ n ≠ 0 then (if c.badged = true then (if c.ba = 0 then (⟨c.ty, c.th, c.ri, n⟩, 0) else (.none, 5)) else (.none, 7)) else (.none, 1)
def stV (r : Cp × Int) : Value := .tuple #[r.1.val, .int .i64 r.2]

set_option maxHeartbeats 2000000 in
theorem st_at {a b d f n : Int} {x y z : Bool} (hx : Cp.good ⟨a, b, d, f⟩ = x) (hy : inr n 65535 = y) (hz : Cp.badged ⟨a, b, d, f⟩ = z) (w : World) {r : Cp × Int} (hr : Cp.stamp ⟨a, b, d, f⟩ n = r) :
    Calls Tryz.prog 167 #[.agg #[.int .i64 a, .int .i64 b, .int .i64 d, .int .i64 f], .int .i64 n] w fun e w' => e = .returned (stV r) ∧ Below w.heap.size w w' := by
  have HX := Lib.hid hx
  have HY := Lib.hid hy
  have HZ := Lib.hid hz
  have hK := (Fr.new w a b d f 62).alloc (.cells #[.int .i64 0, .int .i64 0, .int .i64 0, .int .i64 0] 62)
  have hJ := Fr.also (W := w) (w := w.alloc (.cells #[.int .i64 a, .int .i64 b, .int .i64 d, .int .i64 f] 62)) (below_alloc _ _) 0 0 0 0 62
  rw [show (w.alloc (.cells #[.int .i64 a, .int .i64 b, .int .i64 d, .int .i64 f] 62)).heap.size = w.heap.size + 1 by simp] at hJ
  have hs : (if x = true ∧ y = true ∧ n ≠ 0 then (if z = true then (if f = 0 then ((⟨a, b, d, n⟩ : Cp), 0) else (.none, 5)) else (.none, 7)) else (.none, 1)) = r := by rw [← hr, Cp.stamp, hx, hy, hz]
  clear hx hy hz hr
  go_enter Tryz.func167, Tryz.ntmps167
  go_wp2_with fail
  generalize (w.alloc (.cells #[.int .i64 a, .int .i64 b, .int .i64 d, .int .i64 f] 62)).alloc (.cells #[.int .i64 0, .int .i64 0, .int .i64 0, .int .i64 0] 62) = w1 at hK hJ ⊢
  have HS := Lib.hid hs
  clear hs
  refine (cgood_at HX.out w1).mono ?_
  rintro e w2 ⟨rfl, hb⟩
  have K2 := Lib.hid (hK.on hb)
  have J2 := Lib.hid (hJ.on hb)
  clear hK hJ hb
  have c0 := K2.out.c0
  have c1 := K2.out.c1
  have c2 := K2.out.c2
  have c3 := K2.out.c3
  have d0 := J2.out.c0
  have d1 := J2.out.c1
  have d2 := J2.out.c2
  have d3 := J2.out.c3
  have f0 := J2.out.free 0
  have f1 := J2.out.free 1
  have f2 := J2.out.free 2
  have f3 := J2.out.free 3
  rcases x with _ | _
  · go_wp2
    have q := J2.out.put 0 0 0 0
    have e0 := q.c0
    have e1 := q.c1
    have e2 := q.c2
    have e3 := q.c3
    unfold put4 at e0 e1 e2 e3
    have hs := HS.out
    subst hs
    refine bodyPost_ret (by simp [results, Tryz.results167, go_sem, e0, e1, e2, e3]; rfl) rfl ?_
    exact ⟨rfl, q.old⟩
  rcases y with _ | _
  · go_wp2_with (go_at_call 191; (with_reducible refine (badge_at HY.out _).mono ?_); rintro e w3 ⟨rfl, rfl⟩)
    have q := J2.out.put 0 0 0 0
    have e0 := q.c0
    have e1 := q.c1
    have e2 := q.c2
    have e3 := q.c3
    unfold put4 at e0 e1 e2 e3
    have hs := HS.out
    subst hs
    refine bodyPost_ret (by simp [results, Tryz.results167, go_sem, e0, e1, e2, e3]; rfl) rfl ?_
    exact ⟨rfl, q.old⟩
  by_cases hn : n = 0
  · subst hn
    go_wp2_with (go_at_call 191; (with_reducible refine (badge_at HY.out _).mono ?_); rintro e w3 ⟨rfl, rfl⟩)
    have q := J2.out.put 0 0 0 0
    have e0 := q.c0
    have e1 := q.c1
    have e2 := q.c2
    have e3 := q.c3
    unfold put4 at e0 e1 e2 e3
    have hs := HS.out
    simp at hs
    subst hs
    refine bodyPost_ret (by simp [results, Tryz.results167, go_sem, e0, e1, e2, e3]; rfl) rfl ?_
    exact ⟨rfl, q.old⟩
  go_wp2_with (go_at_call 191; (with_reducible refine (badge_at HY.out _).mono ?_); rintro e w3 ⟨rfl, rfl⟩)
  refine (badged_at HZ.out w2).mono ?_
  rintro e w3 ⟨rfl, hb⟩
  have K3 := Lib.hid (K2.out.on hb)
  have J3 := Lib.hid (J2.out.on hb)
  clear c0 c1 c2 c3 d0 d1 d2 d3 f0 f1 f2 f3 K2 J2 hb
  have c0 := K3.out.c0
  have c1 := K3.out.c1
  have c2 := K3.out.c2
  have c3 := K3.out.c3
  have k3 := K3.out.free 3
  have d0 := J3.out.c0
  have d1 := J3.out.c1
  have d2 := J3.out.c2
  have d3 := J3.out.c3
  have f0 := J3.out.free 0
  have f1 := J3.out.free 1
  have f2 := J3.out.free 2
  have f3 := J3.out.free 3
  rcases z with _ | _
  · go_wp2
    have q := J3.out.put 0 0 0 0
    have e0 := q.c0
    have e1 := q.c1
    have e2 := q.c2
    have e3 := q.c3
    unfold put4 at e0 e1 e2 e3
    have hs := HS.out
    simp [hn] at hs
    subst hs
    refine bodyPost_ret (by simp [results, Tryz.results167, go_sem, e0, e1, e2, e3]; rfl) rfl ?_
    exact ⟨rfl, q.old⟩
  by_cases hf : f = 0
  · subst hf
    go_wp2
    have q := (J3.out.other (k := w.heap.size) (by omega) (Nat.le_refl _) 3 (.int .i64 n)).put a b d n
    have e0 := q.c0
    have e1 := q.c1
    have e2 := q.c2
    have e3 := q.c3
    unfold put4 at e0 e1 e2 e3
    have hs := HS.out
    simp [hn] at hs
    subst hs
    refine bodyPost_ret (by simp [results, Tryz.results167, go_sem, e0, e1, e2, e3]; rfl) rfl ?_
    exact ⟨rfl, q.old⟩
  · go_wp2
    have q := J3.out.put 0 0 0 0
    have e0 := q.c0
    have e1 := q.c1
    have e2 := q.c2
    have e3 := q.c3
    unfold put4 at e0 e1 e2 e3
    have hs := HS.out
    simp [hn, hf] at hs
    subst hs
    refine bodyPost_ret (by simp [results, Tryz.results167, go_sem, e0, e1, e2, e3]; rfl) rfl ?_
    exact ⟨rfl, q.old⟩
theorem stamp_any (c : Cp) (n : Int) (w : World) : Calls Tryz.prog 167 #[c.val, .int .i64 n] w fun e w' => e = .returned (stV (c.stamp n)) ∧ Below w.heap.size w w' := st_at rfl rfl rfl w rfl
theorem good_iff_all {a b d f : Int} : Cp.good ⟨a, b, d, f⟩ = true ↔ (a = 0 ∧ b = 0 ∧ d = 0 ∧ f = 0) ∨ (1 ≤ a ∧ a ≤ 5 ∧ 0 ≤ b ∧ b < 48 ∧ 0 ≤ d ∧ d ≤ 7 ∧ 0 ≤ f ∧ f ≤ 65535 ∧ (f = 0 ∨ a = 3 ∨ a = 4)) := by
  simp only [Cp.good, Cp.non, Cp.eq, Cp.none, Cp.ofThing, Cp.fits, Cp.badged, inr, Bool.or_eq_true, Bool.and_eq_true, decide_eq_true_eq, beq_iff_eq]
  constructor
  · rintro (⟨h1, h2, h3, h4⟩ | ⟨⟨h1, h2, h3, h4⟩, ⟨h5, h6⟩, ⟨h7, h8⟩, h9⟩)
    · exact .inl ⟨h1, h2, h3, h4⟩
    · exact .inr ⟨h1, h2, h3, h4, h5, h6, h7, h8, h9⟩
  · rintro (⟨h1, h2, h3, h4⟩ | ⟨h1, h2, h3, h4, h5, h6, h7, h8, h9⟩)
    · exact .inl ⟨h1, h2, h3, h4⟩
    · exact .inr ⟨⟨h1, h2, h3, h4⟩, ⟨h5, h6⟩, ⟨h7, h8⟩, h9⟩
theorem non_eq {c : Cp} (h : c.non = true) : c = .none := by
  obtain ⟨a, b, d, f⟩ := c
  simp only [Cp.non, Cp.eq, Cp.none, Bool.and_eq_true, beq_iff_eq] at h
  obtain ⟨rfl, rfl, rfl, rfl⟩ := h
  rfl
end Go.Proofs.YtkpbfbmkolgmgaaGreat
namespace Go.Proofs.YtkpbfbmkolgmgaaGreat
open Go.RowKit

end Go.Proofs.YtkpbfbmkolgmgaaGreat
namespace Go.Proofs.YtkpbfbmkolgmgaaGreat
open Go.RowKit

end Go.Proofs.YtkpbfbmkolgmgaaGreat
namespace Go.Proofs.YtkpbfbmkolgmgaaGreat

/-! ### lists -/
theorem sub_length {α : Type} [DecidableEq α] : ∀ (l m : List α), l.Nodup → (∀ x ∈ l, x ∈ m) → l.length ≤ m.length
  | [], _, _, _ => Nat.zero_le _
  | a :: l, m, hn, hs => by
    have ha : a ∈ m := hs a (List.mem_cons_self ..)
    obtain ⟨h1, h2⟩ := List.nodup_cons.1 hn
    have := sub_length l (m.erase a) h2 fun x hx => by
      have hne : x ≠ a := fun e => h1 (e ▸ hx)
      exact (List.mem_erase_of_ne hne).2 (hs x (List.mem_cons_of_mem _ hx))
    rw [List.length_erase_of_mem ha] at this
    have : 0 < m.length := List.length_pos_of_mem ha
    rw [List.length_cons]
    omega
theorem neg_or (k : Int) : k < 0 ∨ 0 ≤ k := by omega
/-! ### what each came of -/
def fu (l : List Int) (k : Nat) : Int := l.getD k (-2)
theorem fu_at {l : List Int} {k : Nat} {z : Int} (h : l[k]? = some z) : fu l k = z := by rw [fu, List.getD_eq_getElem?_getD, h]; rfl
theorem fu_get {l : List Int} {k : Nat} (h : k < l.length) : l[k]? = some (fu l k) := by rw [fu, List.getD_eq_getElem?_getD, List.getElem?_eq_getElem h]; rfl
theorem fu_out {l : List Int} {k : Nat} (h : l.length ≤ k) : fu l k = -2 := by rw [fu, List.getD_eq_getElem?_getD, List.getElem?_eq_none h]; rfl
theorem fu_in {l : List Int} {k : Nat} (h : fu l k ≠ -2) : k < l.length := by
  rcases Nat.lt_or_ge k l.length with h1 | h1
  · exact h1
  · exact absurd (fu_out h1) h
/-- the places from k upwards, at most f of them -/
def chain (l : List Int) : Nat → Int → List Nat
  | 0, _ => []
  | f + 1, k => if k < 0 then [] else k.toNat :: chain l f (fu l k.toNat)
/-- does one come to an end within f places? -/
def ends (l : List Int) : Nat → Int → Bool
  | 0, k => decide (k < 0)
  | f + 1, k => decide (k < 0) || ends l f (fu l k.toNat)
def okAt (l : List Int) (k : Nat) : Bool := decide (-2 ≤ fu l k) && (decide (fu l k < l.length) && !(decide (0 ≤ fu l k) && decide (fu l (fu l k).toNat = -2)))
/-- a forest that may be -/
def fgood (l : List Int) : Bool := decide (l.length ≤ 96) && ((List.range l.length).all (okAt l) && (List.range l.length).all fun i => ends l l.length i)
/-- the same, to work with -/
structure Fo (l : List Int) : Prop where
  few : l.length ≤ 96
  low : ∀ k, -2 ≤ fu l k
  up : ∀ (k j : Nat), fu l k = j → j < l.length ∧ fu l j ≠ -2
  fin : ∀ k, k < l.length → ends l l.length k = true
theorem fo_iff {l : List Int} : fgood l = true ↔ Fo l := by
  simp only [fgood, Bool.and_eq_true, decide_eq_true_eq, List.all_eq_true, List.mem_range, okAt, Bool.not_eq_true', Bool.and_eq_false_iff, decide_eq_false_iff_not]
  constructor
  · rintro ⟨h1, h2, h3⟩
    refine ⟨h1, fun k => ?_, fun k j hj => ?_, h3⟩
    · rcases Nat.lt_or_ge k l.length with h | h
      · exact (h2 k h).1
      · rw [fu_out h]; omega
    · have hk : k < l.length := fu_in (by omega)
      obtain ⟨_, h4, h5⟩ := h2 k hk
      rw [hj] at h4 h5
      refine ⟨by omega, fun e => ?_⟩
      rcases h5 with h5 | h5
      · omega
      · exact h5 (by simpa using e)
  · rintro ⟨h1, h2, h3, h4⟩
    refine ⟨h1, fun k hk => ⟨h2 k, ?_, ?_⟩, h4⟩
    · rcases neg_or (fu l k) with h | h
      · omega
      · have := (h3 k (fu l k).toNat (by omega)).1
        omega
    · rcases neg_or (fu l k) with h | h
      · exact .inl (by omega)
      · exact .inr (h3 k (fu l k).toNat (by omega)).2

/-! ### chains -/
theorem ends_neg {l : List Int} {k : Int} (h : k < 0) : ∀ f, ends l f k = true
  | 0 => by simp [ends, h]
  | f + 1 => by simp [ends, h]
theorem ends_succ {l : List Int} {f : Nat} {k : Int} (h : 0 ≤ k) : ends l (f + 1) k = ends l f (fu l k.toNat) := by
  rw [ends, decide_eq_false (by omega), Bool.false_or]
theorem chain_neg {l : List Int} {k : Int} (h : k < 0) : ∀ f, chain l f k = []
  | 0 => rfl
  | f + 1 => by rw [chain, if_pos h]
theorem chain_succ {l : List Int} {f : Nat} {k : Int} (h : 0 ≤ k) : chain l (f + 1) k = k.toNat :: chain l f (fu l k.toNat) := by
  rw [chain, if_neg (by omega)]
theorem chain_more {l : List Int} : ∀ {f : Nat} {k : Int}, ends l f k = true → chain l (f + 1) k = chain l f k
  | 0, k, h => chain_neg (by simpa [ends] using h) 1
  | f + 1, k, h => by
    rcases neg_or k with hk | hk
    · rw [chain_neg hk, chain_neg hk]
    · rw [ends_succ hk] at h
      rw [chain_succ hk, chain_succ hk, chain_more h]
theorem chain_len {l : List Int} : ∀ (f : Nat) (k : Int), (chain l f k).length ≤ f
  | 0, _ => by simp [chain]
  | f + 1, k => by
    rcases neg_or k with hk | hk
    · rw [chain_neg hk]; simp
    · rw [chain_succ hk, List.length_cons]
      have := chain_len (l := l) f (fu l k.toNat)
      omega
/-- one's own places upwards, all of them -/
def ups (l : List Int) (k : Int) : List Nat := chain l l.length k
/-- those above it -/
def above (l : List Int) (k : Nat) : List Nat := ups l (fu l k)
section
variable {l : List Int}
theorem ups_neg {k : Int} (h : k < 0) : ups l k = [] := chain_neg h _
theorem Fo.ups_cons (h : Fo l) {k : Nat} (hk : k < l.length) : ups l k = k :: above l k := by
  have h1 := h.fin k hk
  rw [ups, ← chain_more h1, chain_succ (by omega), above, ups]
  simp
theorem Fo.above_cons (h : Fo l) {k j : Nat} (hj : fu l k = j) : above l k = j :: above l j := by
  rw [above, hj]
  exact h.ups_cons (h.up k j hj).1
theorem above_none {k : Nat} (h : fu l k < 0) : above l k = [] := ups_neg h
/-- how deep -/
def dep (l : List Int) (k : Nat) : Nat := (above l k).length
theorem Fo.dep_succ (h : Fo l) {k j : Nat} (hj : fu l k = j) : dep l k = dep l j + 1 := by rw [dep, h.above_cons hj]; rfl
theorem dep_zero {k : Nat} (h : fu l k < 0) : dep l k = 0 := by rw [dep, above_none h]; rfl
/-- what is above is less deep -/
theorem Fo.above_dep (h : Fo l) : ∀ (n k : Nat), dep l k = n → ∀ j ∈ above l k, dep l j < n ∧ j < l.length ∧ fu l j ≠ -2
  | 0, k, hk, j, hj => by
    rw [dep, List.length_eq_zero_iff] at hk
    rw [hk] at hj
    cases hj
  | n + 1, k, hk, j, hj => by
    rcases neg_or (fu l k) with h0 | h0
    · rw [dep_zero h0] at hk
      omega
    · obtain ⟨i, hi⟩ : ∃ i : Nat, fu l k = i := ⟨(fu l k).toNat, by omega⟩
      rw [h.above_cons hi, List.mem_cons] at hj
      rw [h.dep_succ hi] at hk
      rcases hj with rfl | hj
      · have := h.up k j hi
        exact ⟨by omega, this.1, this.2⟩
      · have := h.above_dep n i (by omega) j hj
        exact ⟨by omega, this.2.1, this.2.2⟩
theorem Fo.above_lt (h : Fo l) {k j : Nat} (hj : j ∈ above l k) : dep l j < dep l k ∧ j < l.length ∧ fu l j ≠ -2 := h.above_dep _ k rfl j hj
theorem Fo.above_nodup (h : Fo l) : ∀ (n k : Nat), dep l k = n → (above l k).Nodup
  | 0, k, hk => by
    rw [dep, List.length_eq_zero_iff] at hk
    rw [hk]
    exact List.nodup_nil
  | n + 1, k, hk => by
    rcases neg_or (fu l k) with h0 | h0
    · rw [dep_zero h0] at hk
      omega
    · obtain ⟨i, hi⟩ : ∃ i : Nat, fu l k = i := ⟨(fu l k).toNat, by omega⟩
      rw [h.dep_succ hi] at hk
      rw [h.above_cons hi]
      refine List.nodup_cons.2 ⟨fun hm => ?_, h.above_nodup n i (by omega)⟩
      have := (h.above_lt hm).1
      omega
theorem Fo.dep_lt (h : Fo l) {k : Nat} (hk : k < l.length) : dep l k < l.length := by
  have h1 : (ups l k).length ≤ l.length := chain_len _ _
  rw [h.ups_cons hk, List.length_cons] at h1
  exact h1
end
end Go.Proofs.YtkpbfbmkolgmgaaGreat
namespace Go.Proofs.YtkpbfbmkolgmgaaGreat

/-! ### what the calls answer -/
def there (l : List Int) (i : Int) : Bool := fgood l && (decide (0 ≤ i) && (decide (i < l.length) && !decide (fu l i.toNat = -2)))
def belowN (l : List Int) (i : Nat) : List Nat := (List.range l.length).filter fun k => (above l k).contains i
def toInts (l : List Nat) : List Int := l.map fun k : Nat => (k : Int)
def fbelow (l : List Int) (i : Int) : List Int := if there l i = true then toInts (belowN l i.toNat) else []
def rootsN (l : List Int) : List Nat := (List.range l.length).filter fun k => decide (fu l k = -1)
def dropL (l : List Int) (i : Nat) : List Int := (l.map fun x => if x = (i : Int) then fu l i else x).set i (-2)
def moveL (l : List Int) (i k : Nat) : List Int := ((l.map fun x => if x = (i : Int) then (k : Int) else x).set k (fu l i)).set i (-2)
def fmove (l : List Int) (i k : Int) : Option (List Int) := if there l i = true ∧ 0 ≤ k ∧ k < l.length ∧ fu l k.toNat = -2 then some (moveL l i.toNat k.toNat) else none
theorem there_iff {l : List Int} {i : Int} : there l i = true ↔ Fo l ∧ ∃ k : Nat, i = k ∧ k < l.length ∧ fu l k ≠ -2 := by
  simp only [there, Bool.and_eq_true, decide_eq_true_eq, Bool.not_eq_true', decide_eq_false_iff_not, fo_iff]
  constructor
  · rintro ⟨h, h0, h1, h2⟩
    exact ⟨h, i.toNat, by omega, by omega, h2⟩
  · rintro ⟨h, k, rfl, h1, h2⟩
    exact ⟨h, by omega, by omega, by simpa using h2⟩
theorem there_at {l : List Int} (h : Fo l) (k : Nat) : there l k = true ↔ fu l k ≠ -2 := by
  rw [there_iff]
  constructor
  · rintro ⟨_, j, hj, _, h2⟩
    obtain rfl : k = j := by omega
    exact h2
  · exact fun h2 => ⟨h, k, rfl, fu_in h2, h2⟩
/-! ### places after a change -/
theorem fu_set {l : List Int} {i : Nat} (hi : i < l.length) (x : Int) (k : Nat) : fu (l.set i x) k = if k = i then x else fu l k := by
  by_cases e : k = i
  · subst e
    rw [if_pos rfl]
    exact fu_at (by rw [List.getElem?_set_self hi])
  · rw [if_neg e, fu, fu, List.getD_eq_getElem?_getD, List.getD_eq_getElem?_getD, List.getElem?_set_ne (fun q => e q.symm)]
theorem fu_map (l : List Int) (f : Int → Int) (hf : f (-2) = -2) (k : Nat) : fu (l.map f) k = f (fu l k) := by
  rw [fu, fu, List.getD_eq_getElem?_getD, List.getD_eq_getElem?_getD, List.getElem?_map]
  cases l[k]? with
  | none => exact hf.symm
  | some x => rfl
theorem fu_ext {l m : List Int} (hl : l.length = m.length) (h : ∀ k, k < l.length → fu l k = fu m k) : l = m := by
  refine List.ext_getElem? fun k => ?_
  rcases Nat.lt_or_ge k l.length with hk | hk
  · rw [fu_get hk, fu_get (by omega), h k hk]
  · rw [List.getElem?_eq_none hk, List.getElem?_eq_none (by omega)]
theorem ends_of_rank {m : List Int} (r : Nat → Nat) (hr : ∀ k j : Nat, fu m k = j → r j < r k) : ∀ (f k : Nat), r k < f → ends m f k = true
  | 0, _, h => by omega
  | f + 1, k, h => by
    rw [ends_succ (by omega), Int.toNat_natCast]
    rcases neg_or (fu m k) with h0 | h0
    · exact ends_neg h0 _
    · have := hr k (fu m k).toNat (by omega)
      have := ends_of_rank r hr f (fu m k).toNat (by omega)
      rwa [show (((fu m k).toNat : Nat) : Int) = fu m k by omega] at this
theorem fo_of_rank {m : List Int} (few : m.length ≤ 96) (low : ∀ k, -2 ≤ fu m k) (up : ∀ (k j : Nat), fu m k = j → j < m.length ∧ fu m j ≠ -2) (r : Nat → Nat)
    (hr : ∀ k j : Nat, fu m k = j → r j < r k) (hb : ∀ k, k < m.length → r k < m.length) : Fo m :=
  ⟨few, low, up, fun k hk => ends_of_rank r hr _ k (hb k hk)⟩
theorem Fo.not_self {l : List Int} (h : Fo l) (k : Nat) : fu l k ≠ (k : Int) := fun e => by
  have := h.dep_succ e
  omega
theorem Fo.self_above {l : List Int} (h : Fo l) (k : Nat) : k ∉ above l k := fun e => by
  have := (h.above_lt e).1
  omega
/-! ### added -/
section
variable {l : List Int} {i : Nat} {k : Int}
theorem Fo.dep_room (h : Fo l) {j : Nat} (hj : fu l j ≠ -2) (hi : i < l.length) (hi2 : fu l i = -2) : dep l j + 2 ≤ l.length := by
  have hn : (i :: j :: above l j).Nodup := by
    refine List.nodup_cons.2 ⟨fun hm => ?_, List.nodup_cons.2 ⟨h.self_above j, h.above_nodup _ j rfl⟩⟩
    rcases List.mem_cons.1 hm with e | hm
    · exact hj (e ▸ hi2)
    · exact (h.above_lt hm).2.2 hi2
  have := sub_length _ (List.range l.length) hn fun x hx => by
    rw [List.mem_range]
    rcases List.mem_cons.1 hx with rfl | hx
    · exact hi
    · rcases List.mem_cons.1 hx with rfl | hx
      · exact fu_in hj
      · exact (h.above_lt hx).2.1
  rw [List.length_range] at this
  exact this
theorem Fo.add (h : Fo l) (hi : i < l.length) (hi2 : fu l i = -2) (hk : k = -1 ∨ there l k = true) : Fo (l.set i k) := by
  have hk' : k = -1 ∨ ∃ j : Nat, k = j ∧ j < l.length ∧ fu l j ≠ -2 := hk.imp id fun e => (there_iff.1 e).2
  have hne : ∀ a j : Nat, fu l a = j → j ≠ i := fun a j e q => (h.up a j e).2 (q ▸ hi2)
  refine fo_of_rank (by rw [List.length_set]; exact h.few) (fun a => ?_) (fun a j hj => ?_) (fun a => if a = i then (if k = -1 then 0 else dep l k.toNat + 1) else dep l a) (fun a j hj => ?_) (fun a ha => ?_)
  · rw [fu_set hi]
    split
    · rcases hk' with rfl | ⟨j, rfl, _⟩ <;> omega
    · exact h.low a
  · rw [List.length_set]
    rw [fu_set hi] at hj ⊢
    have key : j < l.length ∧ fu l j ≠ -2 := by
      split at hj
      · rcases hk' with rfl | ⟨j', rfl, h1, h2⟩
        · omega
        · obtain rfl : j = j' := by omega
          exact ⟨h1, h2⟩
      · exact h.up a j hj
    refine ⟨key.1, ?_⟩
    rw [if_neg (fun e : j = i => key.2 (e ▸ hi2))]
    exact key.2
  · rw [fu_set hi] at hj
    by_cases e : a = i
    · rw [if_pos e] at hj
      rcases hk' with rfl | ⟨j', rfl, h1, h2⟩
      · omega
      · obtain rfl : j = j' := by omega
        have hji : j ≠ i := fun e => h2 (e ▸ hi2)
        simp only [if_pos e, if_neg hji, if_neg (show ¬ ((j : Int) = -1) by omega), Int.toNat_natCast]
        omega
    · rw [if_neg e] at hj
      simp only [if_neg e, if_neg (hne a j hj)]
      have := h.dep_succ hj
      omega
  · rw [List.length_set] at ha ⊢
    by_cases e : a = i
    · simp only [if_pos e]
      rcases hk' with rfl | ⟨j', rfl, h1, h2⟩
      · rw [if_pos rfl]; omega
      · rw [if_neg (by omega), Int.toNat_natCast]
        have := h.dep_room h2 hi hi2
        omega
    · simp only [if_neg e]
      exact h.dep_lt ha
end

/-! ### dropped -/
section
variable {l : List Int} {i : Nat}
theorem Fo.fu_drop (_ : Fo l) (hi : i < l.length) (k : Nat) : fu (dropL l i) k = if k = i then -2 else if fu l k = i then fu l i else fu l k := by
  rw [dropL, fu_set (by rw [List.length_map]; exact hi)]
  by_cases e : k = i
  · rw [if_pos e, if_pos e]
  · rw [if_neg e, if_neg e, fu_map _ _ (by rw [if_neg (by omega)])]
theorem drop_length : (dropL l i).length = l.length := by simp [dropL]
theorem Fo.drop (h : Fo l) (hi : fu l i ≠ -2) : Fo (dropL l i) := by
  have hil := fu_in hi
  have key : ∀ a j : Nat, fu (dropL l i) a = j → j ≠ i ∧ j < l.length ∧ fu l j ≠ -2 ∧ dep l j < dep l a := fun a j hj => by
    rw [h.fu_drop hil] at hj
    split at hj
    · omega
    · split at hj
      · rename_i e
        have h1 := h.dep_succ e
        have h2 := h.dep_succ hj
        have h3 := h.up i j hj
        exact ⟨fun q => h.not_self i (by rw [hj, q]), h3.1, h3.2, by omega⟩
      · rename_i e
        have h2 := h.dep_succ hj
        have h3 := h.up a j hj
        exact ⟨fun q => e (by rw [hj, q]), h3.1, h3.2, by omega⟩
  refine fo_of_rank (by rw [drop_length]; exact h.few) (fun a => ?_) (fun a j hj => ?_) (dep l) (fun a j hj => (key a j hj).2.2.2) (fun a ha => ?_)
  · rw [h.fu_drop hil]
    split
    · omega
    · split
      · exact h.low i
      · exact h.low a
  · obtain ⟨h1, h2, h3, _⟩ := key a j hj
    refine ⟨by rw [drop_length]; exact h2, ?_⟩
    rw [h.fu_drop hil, if_neg h1]
    split
    · exact hi
    · exact h3
  · rw [drop_length] at ha ⊢
    exact h.dep_lt ha
end

/-! ### moved -/
section
variable {l : List Int} {i k : Nat}
theorem move_length : (moveL l i k).length = l.length := by simp [moveL]
theorem fu_move (hi : i < l.length) (hk : k < l.length) (a : Nat) : fu (moveL l i k) a = if a = i then -2 else if a = k then fu l i else if fu l a = i then (k : Int) else fu l a := by
  rw [moveL, fu_set (by simpa using hi)]
  by_cases e : a = i
  · rw [if_pos e, if_pos e]
  · rw [if_neg e, if_neg e, fu_set (by simpa using hk)]
    by_cases e2 : a = k
    · rw [if_pos e2, if_pos e2]
    · rw [if_neg e2, if_neg e2, fu_map _ _ (by rw [if_neg (by omega)])]
theorem Fo.move (h : Fo l) (hi : fu l i ≠ -2) (hk : k < l.length) (hk2 : fu l k = -2) : Fo (moveL l i k) := by
  have hil := fu_in hi
  have hik : i ≠ k := fun e => hi (e ▸ hk2)
  have hno : ∀ a : Nat, fu l a ≠ (k : Int) := fun a e => (h.up a k e).2 hk2
  have key : ∀ a j : Nat, fu (moveL l i k) a = j → j ≠ i ∧ j < l.length ∧ (j = k ∨ fu l j ≠ -2) ∧ (if j = k then dep l i else dep l j) < (if a = k then dep l i else dep l a) := fun a j hj => by
    rw [fu_move hil hk] at hj
    split at hj
    · omega
    · split at hj
      · rename_i e
        have h2 := h.dep_succ hj
        have h3 := h.up i j hj
        have hjk : j ≠ k := fun q => h3.2 (q ▸ hk2)
        rw [if_neg hjk, if_pos e]
        exact ⟨fun q => h.not_self i (by rw [hj, q]), h3.1, .inr h3.2, by omega⟩
      · rename_i e
        rw [if_neg e]
        split at hj
        · rename_i e2
          obtain rfl : j = k := by omega
          have h2 := h.dep_succ e2
          rw [if_pos rfl]
          exact ⟨fun q => hik q.symm, hk, .inl rfl, by omega⟩
        · rename_i e2
          have h2 := h.dep_succ hj
          have h3 := h.up a j hj
          have hjk : j ≠ k := fun q => h3.2 (q ▸ hk2)
          rw [if_neg hjk]
          exact ⟨fun q => e2 (by rw [hj, q]), h3.1, .inr h3.2, by omega⟩
  refine fo_of_rank (by rw [move_length]; exact h.few) (fun a => ?_) (fun a j hj => ?_) (fun a => if a = k then dep l i else dep l a) (fun a j hj => (key a j hj).2.2.2) (fun a ha => ?_)
  · rw [fu_move hil hk]
    have := h.low i
    have := h.low a
    split
    · omega
    · split
      · omega
      · split <;> omega
  · obtain ⟨h1, h2, h3, _⟩ := key a j hj
    refine ⟨by rw [move_length]; exact h2, ?_⟩
    rw [fu_move hil hk, if_neg h1]
    by_cases e : j = k
    · rw [if_pos e]; exact hi
    · rw [if_neg e]
      split
      · omega
      · exact h3.resolve_left e
  · rw [move_length] at ha ⊢
    split
    · exact h.dep_lt hil
    · exact h.dep_lt ha
end

/-! ### pruned -/
section
variable {l : List Int} {i : Nat}
end
end Go.Proofs.YtkpbfbmkolgmgaaGreat
namespace Go.Proofs.YtkpbfbmkolgmgaaGreat
section
variable {l : List Int}

theorem mem_rootsN {k : Nat} : k ∈ rootsN l ↔ k < l.length ∧ fu l k = -1 := by
  rw [rootsN, List.mem_filter, List.mem_range, decide_eq_true_eq]
theorem Fo.root (h : Fo l) : ∀ (n x : Nat), dep l x = n → fu l x ≠ -2 → ∃ r ∈ rootsN l, x = r ∨ r ∈ above l x := by
  intro n
  induction n using Nat.strongRecOn with
  | _ n ih =>
    intro x hd hx
    rcases neg_or (fu l x) with h0 | h0
    · have := h.low x
      exact ⟨x, mem_rootsN.2 ⟨fu_in hx, by omega⟩, .inl rfl⟩
    · obtain ⟨j, hj⟩ : ∃ j : Nat, fu l x = j := ⟨(fu l x).toNat, by omega⟩
      have h2 := h.dep_succ hj
      obtain ⟨r, h3, h4⟩ := ih (dep l j) (by omega) j rfl (h.up x j hj).2
      refine ⟨r, h3, .inr ?_⟩
      rw [h.above_cons hj]
      rcases h4 with rfl | h4
      · exact List.mem_cons_self ..
      · exact List.mem_cons_of_mem _ h4
end
end Go.Proofs.YtkpbfbmkolgmgaaGreat
namespace Go.Proofs.YtkpbfbmkolgmgaaGreat
open Go.RowKit

/-- whole numbers lie in a block below B -/
def IntsAt (w : World) (B : Nat) (A : Option Addr) (l : List Int) : Prop :=
  0 < l.length → ∃ b o, A = some ⟨b, o, none⟩ ∧ b < B ∧ ∀ (j : Nat) (z : Int), l[j]? = some z → w.cell? ⟨b, o + j, none⟩ = some (.int .i64 z)
theorem IntsAt.below {w w' : World} {B : Nat} {A : Option Addr} {l : List Int} (h : IntsAt w B A l) (hb : Below B w w') : IntsAt w' B A l := fun h0 => by
  obtain ⟨b, o, e, hlt, hc⟩ := h h0
  exact ⟨b, o, e, hlt, fun j a ha => by rw [hb.cell (p := ⟨b, _, none⟩) hlt]; exact hc j a ha⟩
theorem IntsAt.mono {w : World} {B B' : Nat} {A : Option Addr} {l : List Int} (h : IntsAt w B A l) (hB : B ≤ B') : IntsAt w B' A l := fun h0 => by
  obtain ⟨b, o, e, hlt, hc⟩ := h h0
  exact ⟨b, o, e, by omega, hc⟩
/-- what lay there lies there still -/
theorem IntsAt.on {w w' : World} {A : Option Addr} {l : List Int} (h : IntsAt w w.heap.size A l) (hb : Below w.heap.size w w') : IntsAt w' w'.heap.size A l := (h.below hb).mono hb.size
theorem below_self (w : World) : Below w.heap.size w w := Below.refl _ _
theorem below_draws {B : Nat} {a w : World} (h : Below B a w) (n : Nat) : Below B a (w.drewN n) := h.trans ⟨rfl, rfl, rfl, Nat.le_refl _, fun _ _ => rfl⟩
theorem info3_all : (Tryz.prog.info? 3).map (fun i => (i.zero, i.size, i.bytes)) = some (some (.int .i64 0), 1, 8) := by kernel_rfl
theorem info3_parts : ∃ i : TypeInfo, Tryz.prog.info? 3 = some i ∧ i.zero = some (.int .i64 0) ∧ i.size = 1 ∧ i.bytes = 8 := by
  have h := info3_all
  cases hq : Tryz.prog.info? 3 with
  | none => simp [hq] at h
  | some i =>
    simp [hq] at h
    exact ⟨i, rfl, h.1, h.2.1, h.2.2⟩
theorem make_ints (k : IntKind) (n : Nat) (hn : n ≤ 4096) (w : World) : (Instr.makeSlice 28 (.int k (n : Int)) (.int k (n : Int))).run Tryz.prog w = .ok (.slice (some ⟨w.heap.size, 0, none⟩) n n) (w.alloc (.cells (madeCells #[.int .i64 0] n) 3)) := by
  obtain ⟨i, h1, h2, h3, h4⟩ := info3_parts
  have := run_make w 28 3 i (.int .i64 0) Tryz.underlying28 h1 h2 k k n n (by omega) (by omega) (by rw [h4]; omega) (by omega)
  rw [h3] at this
  simpa [Value.cells] using this
theorem made_cell (w : World) (z : Value) (n t k : Nat) (hk : k < n) : (w.alloc (.cells (madeCells #[z] n) t)).cell? ⟨w.heap.size, k, none⟩ = some z := by
  rw [cell_of_row _ _ k _ _ _ (heap_alloc_new w _)]
  unfold madeCells
  simp [hk, Nat.mod_one]
/-- whole numbers written out -/
def icells (l : List Int) : List Value := l.map (.int .i64)
theorem icells_append (l m : List Int) : icells (l ++ m) = icells l ++ icells m := List.map_append
/-- a list of the call's own; all that was there is as it was -/
structure Bi (W w : World) (v : Value) (l : List Int) : Prop where
  own : w.ownsRow W.heap.size 3 1 v l.length (icells l)
  old : Below W.heap.size W w
section
variable {W w w' : World} {v v' : Value} {l l' : List Int}
theorem Bi.alloc (h : Bi W w v l) (ob : Obj) : Bi W (w.alloc ob) v l := ⟨h.own.alloc ob, h.old.alloc h.old.size _⟩
theorem Bi.more (h : Bi W w v l) (hg : w.grownBy w' v.ownBlock) (ho : w'.ownsRow W.heap.size 3 1 v' l'.length (icells l')) : Bi W w' v' l' :=
  ⟨ho, h.old.grown hg h.old.size fun k hk => (h.own.lt k hk).1⟩
theorem Bi.on (h : Bi W w v l) (hb : Below w.heap.size w w') : Bi W w' v l :=
  ⟨h.own.kept (row := none) ⟨hb.os, hb.tape, hb.output, hb.size, fun k hk _ => hb.block k hk⟩ (by cases hv : v.ownBlock <;> simp), below_on h.old hb⟩
theorem Bi.ints (h : Bi W w v l) : ∃ A cap, v = .slice A l.length cap ∧ IntsAt w w.heap.size A l := by
  have ho := h.own
  rcases ho.2 with ⟨rfl, h0⟩ | ⟨g, cap, cur, rfl, hb, hg, h1, h2, h3, h4⟩
  · exact ⟨none, 0, by rw [h0], fun hp => absurd hp (by omega)⟩
  · refine ⟨some ⟨g, 0, none⟩, cap, rfl, fun _ => ⟨g, 0, rfl, (Array.getElem?_eq_some_iff.1 hg).1, fun j x hx => ?_⟩⟩
    have hj : j < l.length := (List.getElem?_eq_some_iff.1 hx).1
    have := ho.cellAt j (by omega)
    rw [Nat.zero_add, this, icells, List.getElem?_map, hx]
    rfl
end
theorem Bi.block {W w : World} {v : Value} {l : List Int} (h : Bi W w v l) (h0 : l ≠ []) : ∃ g cap, v = .slice (some ⟨g, 0, none⟩) l.length cap ∧ W.heap.size ≤ g ∧ g < w.heap.size ∧
    (∀ j (z : Int), l[j]? = some z → w.cell? ⟨g, j, none⟩ = some (.int .i64 z)) ∧ ∀ j, w.frozen? ⟨g, j, none⟩ = false := by
  have ho := h.own
  rcases ho.2 with ⟨rfl, hz⟩ | ⟨g, cap, cur, rfl, hb, hg, h1, h2, h3, h4⟩
  · exact absurd (List.length_eq_zero_iff.1 hz) h0
  · refine ⟨g, cap, rfl, hb, (Array.getElem?_eq_some_iff.1 hg).1, fun j x hx => ?_, fun j => ho.frozenAt j⟩
    have hj : j < l.length := (List.getElem?_eq_some_iff.1 hx).1
    have := ho.cellAt j (by omega)
    rw [this, icells, List.getElem?_map, hx]
    rfl
theorem Bi.put {W w : World} {g cap : Nat} {l : List Int} (h : Bi W w (.slice (some ⟨g, 0, none⟩) l.length cap) l) (k : Nat) (y : Int) : Bi W (w.setCell ⟨g, k, none⟩ (.int .i64 y)) (.slice (some ⟨g, 0, none⟩) l.length cap) (l.set k y) := by
  obtain ⟨h1, h2⟩ := h.own.stored k (.int .i64 y)
  refine h.more h2 ?_
  rw [icells, List.map_set, List.length_set]
  exact h1
theorem Bi.put' {W w : World} {g cap n : Nat} {l : List Int} (h : Bi W w (.slice (some ⟨g, 0, none⟩) n cap) l) (hn : n = l.length) (k : Nat) (y : Int) : Bi W (w.setCell ⟨g, k, none⟩ (.int .i64 y)) (.slice (some ⟨g, 0, none⟩) n cap) (l.set k y) := by
  subst hn
  exact h.put k y
theorem Bi.drew {W w : World} {v : Value} {l : List Int} (h : Bi W w v l) : Bi W w.drew v l := ⟨h.own, h.old.drew⟩
/-- one number in memory, as a list -/
theorem one_new (w : World) (z : Int) : ∀ j u, [Value.int .i64 z][j]? = some u → (w.alloc (.cells #[.int .i64 z] 3)).cell? ((⟨w.heap.size, 0, none⟩ : Addr).add j) = some u := fun j u hu => by
  rw [Addr.add_mid, Nat.zero_add, cell_of_row _ _ j _ _ _ (heap_alloc_new w _), ← hu]
  simp
theorem one_plain (z : Int) : ∀ u ∈ [Value.int .i64 z], u.oneCell' = true := by
  intro u hu
  simp at hu
  subst hu
  rfl

theorem none_at (w : World) : IntsAt w w.heap.size none [] := fun h => absurd h (by simp)
end Go.Proofs.YtkpbfbmkolgmgaaGreat
namespace Go.Proofs.YtkpbfbmkolgmgaaGreat
open Go.RowKit

/-- a place is read -/
theorem at_place {w : World} {b o : Nat} {l : List Int} (hc : ∀ (j : Nat) (z : Int), l[j]? = some z → w.cell? ⟨b, o + j, none⟩ = some (.int .i64 z)) {k : Nat} (hk : k < l.length) : w.cell? ⟨b, o + k, none⟩ = some (.int .i64 (fu l k)) := hc k _ (fu_get hk)
theorem at_open {w : World} {B : Nat} {A : Option Addr} {l : List Int} (h : IntsAt w B A l) (h0 : 0 < l.length) : ∃ b o, A = some ⟨b, o, none⟩ ∧ b < B ∧ ∀ k, k < l.length → w.cell? ⟨b, o + k, none⟩ = some (.int .i64 (fu l k)) := by
  obtain ⟨b, o, e, hlt, hc⟩ := h h0
  exact ⟨b, o, e, hlt, fun k hk => at_place hc hk⟩
theorem okAt_iff {l : List Int} {k : Nat} : okAt l k = true ↔ -2 ≤ fu l k ∧ fu l k < l.length ∧ (0 ≤ fu l k → fu l (fu l k).toNat ≠ -2) := by
  simp only [okAt, Bool.and_eq_true, decide_eq_true_eq, Bool.not_eq_true', Bool.and_eq_false_iff, decide_eq_false_iff_not]
  constructor
  · rintro ⟨h1, h2, h3⟩
    exact ⟨h1, h2, fun h0 => h3.resolve_left (fun q => q h0)⟩
  · rintro ⟨h1, h2, h3⟩
    refine ⟨h1, h2, ?_⟩
    by_cases h0 : 0 ≤ fu l k
    · exact .inr (h3 h0)
    · exact .inl h0

end Go.Proofs.YtkpbfbmkolgmgaaGreat
namespace Go.Proofs.YtkpbfbmkolgmgaaGreat
open Go.RowKit

/-- a box of the call's own, of one cell; what was before stands -/
structure Pbx (W w : World) (g : Nat) (v : Value) : Prop where
  c : w.cell? ⟨g, 0, none⟩ = some v
  old : Below W.heap.size W w
  base : W.heap.size ≤ g
  lt : g < w.heap.size
theorem Pbx.new (w : World) (v : Value) (t : TypeId) : Pbx w (w.alloc (.cells #[v] t)) w.heap.size v := by
  have hg := heap_alloc_new w (.cells #[v] t)
  exact ⟨by rw [cell_of_row _ _ 0 _ _ _ hg]; rfl, below_alloc _ _, Nat.le_refl _, by simp⟩
theorem Pbx.on {W w w' : World} {g : Nat} {v : Value} (h : Pbx W w g v) (hb : Below w.heap.size w w') : Pbx W w' g v :=
  ⟨by rw [hb.cell (p := ⟨g, 0, none⟩) h.lt]; exact h.c, below_on h.old hb, h.base, Nat.lt_of_lt_of_le h.lt hb.size⟩

/-! ### what the small calls answer -/
def placeB (n : Nat) (i : Int) : Bool := decide (0 ≤ i) && decide (i < n)
def filledB (l : List Int) (i : Int) : Bool := placeB l.length i && !decide (fu l i.toNat = -2)
def vacantB (l : List Int) (i : Int) : Bool := placeB l.length i && decide (fu l i.toNat = -2)
def bearB (l : List Int) (i : Int) : Bool := decide (i = -1) || filledB l i
theorem placeB_iff {n : Nat} {i : Int} : placeB n i = true ↔ ∃ k : Nat, i = k ∧ k < n := by
  rw [placeB, Bool.and_eq_true, decide_eq_true_eq, decide_eq_true_eq]
  exact ⟨fun h => ⟨i.toNat, by omega, by omega⟩, fun ⟨k, h1, h2⟩ => by omega⟩
theorem filledB_iff {l : List Int} {i : Int} : filledB l i = true ↔ ∃ k : Nat, i = k ∧ k < l.length ∧ fu l k ≠ -2 := by
  rw [filledB, Bool.and_eq_true, placeB_iff, Bool.not_eq_true', decide_eq_false_iff_not]
  constructor
  · rintro ⟨⟨k, rfl, h⟩, h2⟩
    exact ⟨k, rfl, h, by simpa using h2⟩
  · rintro ⟨k, rfl, h, h2⟩
    exact ⟨⟨k, rfl, h⟩, by simpa using h2⟩
theorem vacantB_iff {l : List Int} {i : Int} : vacantB l i = true ↔ ∃ k : Nat, i = k ∧ k < l.length ∧ fu l k = -2 := by
  rw [vacantB, Bool.and_eq_true, placeB_iff, decide_eq_true_eq]
  constructor
  · rintro ⟨⟨k, rfl, h⟩, h2⟩
    exact ⟨k, rfl, h, by simpa using h2⟩
  · rintro ⟨k, rfl, h, h2⟩
    exact ⟨⟨k, rfl, h⟩, by simpa using h2⟩
theorem there_eq (l : List Int) (i : Int) : there l i = (filledB l i && fgood l) := by
  rw [there, filledB, placeB, Bool.and_comm, Bool.and_assoc (decide (0 ≤ i))]; try simp only [Bool.and_assoc]
theorem okAt_eq (l : List Int) (k : Nat) : okAt l k = (decide (fu l k = -2) || bearB l (fu l k)) := by
  rw [Bool.eq_iff_iff, okAt_iff, Bool.or_eq_true, decide_eq_true_eq, bearB, Bool.or_eq_true, decide_eq_true_eq, filledB_iff]
  constructor
  · rintro ⟨h1, h2, h3⟩
    rcases neg_or (fu l k) with h0 | h0
    · omega
    · exact .inr (.inr ⟨(fu l k).toNat, by omega, by omega, h3 h0⟩)
  · rintro (h | h | ⟨j, h, h1, h2⟩)
    · exact ⟨by omega, by omega, fun q => by omega⟩
    · exact ⟨by omega, by omega, fun q => by omega⟩
    · exact ⟨by omega, by omega, fun _ => by rw [h, Int.toNat_natCast]; exact h2⟩
theorem fmove_eq (l : List Int) (i k : Int) : fmove l i k = if (there l i && vacantB l k) = true then some (moveL l i.toNat k.toNat) else none := by
  rw [fmove]
  refine ite_congr (propext ?_) (fun _ => rfl) (fun _ => rfl)
  rw [Bool.and_eq_true, vacantB_iff]
  constructor
  · rintro ⟨h, h0, h1, h2⟩
    exact ⟨h, k.toNat, by omega, by omega, h2⟩
  · rintro ⟨h, m, rfl, h1, h2⟩
    exact ⟨h, by omega, by omega, by simpa using h2⟩

/-! ### the small calls -/
theorem isplace_is {A : Option Addr} {n cap : Nat} {i : Int} {t : Bool} {w : World} (ht : placeB n i = t) :
    Calls Tryz.prog 186 #[.agg #[.slice A n cap], .int .i64 i] w fun e w' => e = .returned (.bool t) ∧ Below w.heap.size w w' := by
  have hK := Pbx.new w (.slice A n cap) 71
  have c0 := hK.c
  have HO := Lib.hid hK.old
  rw [placeB] at ht
  clear hK
  by_cases h0 : 0 ≤ i
  · rw [decide_eq_true h0, Bool.true_and] at ht
    by_cases h1 : i < n
    · have HF : Hid (t = true) := Lib.hid (by rw [← ht, decide_eq_true h1])
      clear ht
      go_enter Tryz.func186, Tryz.ntmps186
      go_wp2
      go_ret
      exact ⟨by rw [HF.out]; rfl, HO.out⟩
    · have HF : Hid (t = false) := Lib.hid (by rw [← ht, decide_eq_false h1])
      clear ht
      go_enter Tryz.func186, Tryz.ntmps186
      go_wp2
      go_ret
      exact ⟨by rw [HF.out]; rfl, HO.out⟩
  · have HF : Hid (t = false) := Lib.hid (by rw [← ht, decide_eq_false h0, Bool.false_and])
    clear ht
    go_enter Tryz.func186, Tryz.ntmps186
    go_wp2
    go_ret
    exact ⟨by rw [HF.out]; rfl, HO.out⟩
theorem filled_is {A : Option Addr} {n cap : Nat} {l : List Int} {i : Int} {t : Bool} {w : World} (hn : n = l.length) (hL : IntsAt w w.heap.size A l) (ht : filledB l i = t) :
    Calls Tryz.prog 148 #[.agg #[.slice A n cap], .int .i64 i] w fun e w' => e = .returned (.bool t) ∧ Below w.heap.size w w' := by
  have HN := Lib.hid hn
  have HL := Lib.hid hL
  have HT := Lib.hid ht
  have hK := Pbx.new w (.slice A n cap) 71
  have c0 := hK.c
  clear hn hL ht
  rcases hp : placeB n i with _ | _
  · have HF : Hid (t = false) := Lib.hid (by rw [← HT.out, filledB, ← HN.out, hp]; rfl)
    have HP := Lib.hid hp
    clear hp
    go_enter Tryz.func148, Tryz.ntmps148
    go_wp2_with fail
    generalize w.alloc (.cells #[.slice A n cap] 71) = w1 at hK c0 ⊢
    refine (isplace_is (w := w1) HP.out).mono ?_
    rintro e w2 ⟨rfl, hb⟩
    have HO := Lib.hid (hK.on hb).old
    clear hb hK c0
    go_wp2
    go_ret
    exact ⟨by rw [HF.out]; rfl, HO.out⟩
  · obtain ⟨k, rfl, hk⟩ := placeB_iff.1 hp
    have HP := Lib.hid hp
    have HF : Hid (t = !decide (fu l k = -2)) := Lib.hid (by rw [← HT.out, filledB, ← HN.out, hp]; rfl)
    have HK := Lib.hid hk
    clear hp hk
    go_enter Tryz.func148, Tryz.ntmps148
    go_wp2_with fail
    generalize w.alloc (.cells #[.slice A n cap] 71) = w1 at hK c0 ⊢
    refine (isplace_is (w := w1) HP.out).mono ?_
    rintro e w2 ⟨rfl, hb⟩
    have K2 := Lib.hid (hK.on hb)
    clear hb hK c0
    have c0 := K2.out.c
    obtain ⟨b, o, rfl, hblk, hc⟩ := at_open HL.out (by rw [← HN.out]; have := HK.out; omega)
    have c1 : w2.cell? ⟨b, o + k, none⟩ = some (.int .i64 (fu l k)) := by
      rw [K2.out.old.cell (p := ⟨b, _, none⟩) hblk]
      exact hc k (by rw [← HN.out]; exact HK.out)
    have hkn : (k : Int) < (n : Int) := by have := HK.out; omega
    obtain ⟨y, hy⟩ : ∃ y, fu l k = y := ⟨_, rfl⟩
    rw [hy] at c1 HF
    clear hc hblk hy
    by_cases h2 : y = -2
    · subst h2
      go_wp2
      go_ret
      exact ⟨by rw [HF.out]; rfl, K2.out.old⟩
    · have h3 : (y != -2) = true := by simp [h2]
      have HF2 : Hid (t = true) := Lib.hid (by rw [HF.out, decide_eq_false h2]; rfl)
      go_wp2
      go_ret
      exact ⟨by rw [HF2.out]; rfl, K2.out.old⟩
theorem vacant_is {A : Option Addr} {n cap : Nat} {l : List Int} {i : Int} {t : Bool} {w : World} (hn : n = l.length) (hL : IntsAt w w.heap.size A l) (ht : vacantB l i = t) :
    Calls Tryz.prog 194 #[.agg #[.slice A n cap], .int .i64 i] w fun e w' => e = .returned (.bool t) ∧ Below w.heap.size w w' := by
  have HN := Lib.hid hn
  have HL := Lib.hid hL
  have HT := Lib.hid ht
  have hK := Pbx.new w (.slice A n cap) 71
  have c0 := hK.c
  clear hn hL ht
  rcases hp : placeB n i with _ | _
  · have HF : Hid (t = false) := Lib.hid (by rw [← HT.out, vacantB, ← HN.out, hp]; rfl)
    have HP := Lib.hid hp
    clear hp
    go_enter Tryz.func194, Tryz.ntmps194
    go_wp2_with fail
    generalize w.alloc (.cells #[.slice A n cap] 71) = w1 at hK c0 ⊢
    refine (isplace_is (w := w1) HP.out).mono ?_
    rintro e w2 ⟨rfl, hb⟩
    have HO := Lib.hid (hK.on hb).old
    clear hb hK c0
    go_wp2
    go_ret
    exact ⟨by rw [HF.out]; rfl, HO.out⟩
  · obtain ⟨k, rfl, hk⟩ := placeB_iff.1 hp
    have HP := Lib.hid hp
    have HF : Hid (t = decide (fu l k = -2)) := Lib.hid (by rw [← HT.out, vacantB, ← HN.out, hp]; rfl)
    have HK := Lib.hid hk
    clear hp hk
    go_enter Tryz.func194, Tryz.ntmps194
    go_wp2_with fail
    generalize w.alloc (.cells #[.slice A n cap] 71) = w1 at hK c0 ⊢
    refine (isplace_is (w := w1) HP.out).mono ?_
    rintro e w2 ⟨rfl, hb⟩
    have K2 := Lib.hid (hK.on hb)
    clear hb hK c0
    have c0 := K2.out.c
    obtain ⟨b, o, rfl, hblk, hc⟩ := at_open HL.out (by rw [← HN.out]; have := HK.out; omega)
    have c1 : w2.cell? ⟨b, o + k, none⟩ = some (.int .i64 (fu l k)) := by
      rw [K2.out.old.cell (p := ⟨b, _, none⟩) hblk]
      exact hc k (by rw [← HN.out]; exact HK.out)
    have hkn : (k : Int) < (n : Int) := by have := HK.out; omega
    obtain ⟨y, hy⟩ : ∃ y, fu l k = y := ⟨_, rfl⟩
    rw [hy] at c1 HF
    clear hc hblk hy
    by_cases h2 : y = -2
    · subst h2
      go_wp2
      go_ret
      exact ⟨by rw [HF.out]; rfl, K2.out.old⟩
    · have h3 : (y == -2) = false := by simp [h2]
      have HF2 : Hid (t = false) := Lib.hid (by rw [HF.out, decide_eq_false h2])
      go_wp2
      go_ret
      exact ⟨by rw [HF2.out]; rfl, K2.out.old⟩
theorem maybear_is {A : Option Addr} {n cap : Nat} {l : List Int} {i : Int} {t : Bool} {w : World} (hn : n = l.length) (hL : IntsAt w w.heap.size A l) (ht : bearB l i = t) :
    Calls Tryz.prog 83 #[.agg #[.slice A n cap], .int .i64 i] w fun e w' => e = .returned (.bool t) ∧ Below w.heap.size w w' := by
  have HN := Lib.hid hn
  have HL := Lib.hid hL
  have hK := Pbx.new w (.slice A n cap) 71
  have c0 := hK.c
  rw [bearB] at ht
  clear hn hL
  by_cases h1 : i = -1
  · have HF : Hid (t = true) := Lib.hid (by rw [← ht, decide_eq_true h1, Bool.true_or])
    have HO := Lib.hid hK.old
    subst h1
    clear ht hK
    go_enter Tryz.func83, Tryz.ntmps83
    go_wp2
    go_ret
    exact ⟨by rw [HF.out]; rfl, HO.out⟩
  · rw [decide_eq_false h1, Bool.false_or] at ht
    have HT := Lib.hid ht
    have h2 : (i == -1) = false := by simp [h1]
    clear ht
    go_enter Tryz.func83, Tryz.ntmps83
    go_wp2_with fail
    generalize w.alloc (.cells #[.slice A n cap] 71) = w1 at hK c0 ⊢
    refine (filled_is (w := w1) HN.out (HL.out.on hK.old) HT.out).mono ?_
    rintro e w2 ⟨rfl, hb⟩
    have HO := Lib.hid (hK.on hb).old
    clear hb hK c0
    go_wp2
    go_ret
    exact ⟨rfl, HO.out⟩
end Go.Proofs.YtkpbfbmkolgmgaaGreat
namespace Go.Proofs.YtkpbfbmkolgmgaaGreat
open Go.RowKit

/-- j steps have been made up from a place, z is the place reached -/
def PEndRel (W : World) (l : List Int) (A : Option Addr) (n cap g i : Nat) (k : Nat) (p q : Value) (wr : World) : Prop :=
  ∃ j m : Nat, k + j = n ∧ p = .int .i64 j ∧ q = .int .i64 m ∧ m < n ∧ ends l n i = ends l k m ∧ Pbx W wr g (.slice A n cap)
theorem pends_is {A : Option Addr} {n cap : Nat} {l : List Int} {i : Nat} {t : Bool} {w : World} (hn : n = l.length) (hn6 : n ≤ 1000000) (hL : IntsAt w w.heap.size A l) (hok : ∀ j, j < n → okAt l j = true) (hi : i < n) (ht : ends l n i = t) :
    Calls Tryz.prog 84 #[.agg #[.slice A n cap], .int .i64 (i : Int)] w fun e w' => e = .returned (.bool t) ∧ Below w.heap.size w w' := by
  have HN := Lib.hid hn
  have H6 := Lib.hid hn6
  have HL := Lib.hid hL
  have HT := Lib.hid ht
  have HOK := Lib.hid hok
  have hK := Pbx.new w (.slice A n cap) 71
  have c0 := hK.c
  obtain ⟨b, o, rfl, hblk, hc⟩ := at_open HL.out (by omega)
  have HC : Hid (b < w.heap.size ∧ ∀ k, k < n → w.cell? ⟨b, o + k, none⟩ = some (.int .i64 (fu l k))) := Lib.hid ⟨hblk, fun k hk => hc k (by rw [← HN.out]; exact hk)⟩
  have HI := Lib.hid hi
  clear hn hn6 hL hok ht hblk hc hi
  go_enter Tryz.func84, Tryz.ntmps84
  go_wp2_with fail
  generalize w.alloc (.cells #[.slice (some ⟨b, o, none⟩) n cap] 71) = w1 at hK c0 ⊢
  have HK1 := Lib.hid hK
  clear hK
  go_wp2_with fail
  clear c0
  go_loopg [8, 1] n (fun k p q wr => PEndRel w l (some ⟨b, o, none⟩) n cap w.heap.size i k p q wr)
  case atStart => exact ⟨0, i, by omega, rfl, rfl, HI.out, rfl, HK1.out⟩
  case round =>
    obtain ⟨j, m, hk, rfl, rfl, hm, he, hK⟩ := hrel
    have HK := Lib.hid hk
    have K := Lib.hid hK
    have HM := Lib.hid hm
    have HE := Lib.hid he
    clear hk hK hm he HK1
    have c0 := K.out.c
    by_cases hlt : j < n
    · have HLT := Lib.hid hlt
      have hlt2 : (j : Int) < (n : Int) := by omega
      have hmn : (m : Int) < (n : Int) := by have := HM.out; omega
      have hok := okAt_iff.1 (HOK.out m HM.out)
      have c1 : wr.cell? ⟨b, o + m, none⟩ = some (.int .i64 (fu l m)) := by
        rw [K.out.old.cell (p := ⟨b, _, none⟩) HC.out.1]
        exact HC.out.2 m HM.out
      have HS : Hid (ends l gk m = ends l (gk - 1) (fu l m)) := Lib.hid (by
        obtain ⟨f, rfl⟩ : ∃ f, gk = f + 1 := ⟨gk - 1, by have := HK.out; omega⟩
        rw [ends_succ (by omega), Int.toNat_natCast]; rfl)
      obtain ⟨y, hy⟩ : ∃ y, fu l m = y := ⟨_, rfl⟩
      rw [hy] at c1 hok HS
      by_cases h0 : y < 0
      · have HF : Hid (t = true) := Lib.hid (by rw [← HT.out, HE.out, HS.out, ends_neg h0])
        clear hok hy
        go_wp2
        go_ret
        exact ⟨by rw [HF.out]; rfl, K.out.old⟩
      · obtain ⟨y', rfl⟩ : ∃ y' : Nat, y = y' := ⟨y.toNat, by omega⟩
        have HY : Hid (y' < n) := Lib.hid (by have := hok.2.1; rw [← HN.out] at this; omega)
        clear hok hy
        go_wp2
        go_roundg (gk - 1)
        case measure => have := HK.out; have := HLT.out; omega
        case rel => exact ⟨j + 1, y', by have := HK.out; have := HLT.out; omega, (by refine congrArg _ ?_; have := H6.out; have := HLT.out; first | rfl | (unfold wrap64; omega)), rfl, HY.out, by rw [HE.out, HS.out], K.out⟩
    · have hlt2 : ¬ (j : Int) < (n : Int) := by omega
      have HF : Hid (t = false) := Lib.hid (by
        have : gk = 0 := by have := HK.out; omega
        subst this
        rw [← HT.out, HE.out, ends, decide_eq_false (by omega)])
      clear hlt
      go_wp2
      go_ret
      exact ⟨by rw [HF.out]; rfl, K.out.old⟩

def PG1 (W : World) (n cap g : Nat) (A : Option Addr) (l : List Int) (k : Nat) (p : Value) (wr : World) : Prop :=
  ∃ i : Nat, k + i = n ∧ p = .int .i64 i ∧ (∀ j, j < i → okAt l j = true) ∧ Pbx W wr g (.slice A n cap)
def PG2 (W : World) (n cap g : Nat) (A : Option Addr) (l : List Int) (k : Nat) (p : Value) (wr : World) : Prop :=
  ∃ i : Nat, k + i = n ∧ p = .int .i64 i ∧ (∀ j, j < i → ends l n j = true) ∧ Pbx W wr g (.slice A n cap)

set_option maxHeartbeats 4000000 in
theorem pgood_is {A : Option Addr} {n cap : Nat} {l : List Int} {t : Bool} {w : World} (hn : n = l.length) (hL : IntsAt w w.heap.size A l) (ht : fgood l = t) :
    Calls Tryz.prog 38 #[.agg #[.slice A n cap]] w fun e w' => e = .returned (.bool t) ∧ Below w.heap.size w w' := by
  have HN := Lib.hid hn
  have HL := Lib.hid hL
  have HT := Lib.hid ht
  have hK := Pbx.new w (.slice A n cap) 71
  have c0 := hK.c
  clear hn hL ht
  by_cases h96 : 96 < n
  · have HF : Hid (t = false) := Lib.hid (by rw [← HT.out, fgood, ← HN.out, decide_eq_false (by omega), Bool.false_and])
    have HO := Lib.hid hK.old
    have h1 : (96 : Int) < n := by omega
    clear hK
    go_enter Tryz.func38, Tryz.ntmps38
    go_wp2
    go_ret
    exact ⟨by rw [HF.out]; rfl, HO.out⟩
  have h1 : ¬ (96 : Int) < n := by omega
  have H96 : Hid (n ≤ 96) := Lib.hid (by omega)
  clear h96
  go_enter Tryz.func38, Tryz.ntmps38
  go_wp2_with fail
  generalize w.alloc (.cells #[.slice A n cap] 71) = w1 at hK c0 ⊢
  have HK1 := Lib.hid hK
  clear hK
  go_wp2_with fail
  clear c0
  go_loopg [13] n (fun k p wr => PG1 w n cap w.heap.size A l k p wr)
  case atStart => exact ⟨0, by omega, rfl, fun j h => by omega, HK1.out⟩
  case round =>
    obtain ⟨i, hk, rfl, ha, hb⟩ := hrel
    have HK := Lib.hid hk
    have K := Lib.hid hb
    have HA := Lib.hid ha
    clear hk hb ha HK1
    have c0 := K.out.c
    by_cases hlt : i < n
    · have HLT := Lib.hid hlt
      have hlt2 : (i : Int) < (n : Int) := by omega
      obtain ⟨b, o, rfl, hblk, hc⟩ := at_open HL.out (by rw [← HN.out]; omega)
      have c1 : wr.cell? ⟨b, o + i, none⟩ = some (.int .i64 (fu l i)) := by
        rw [K.out.old.cell (p := ⟨b, _, none⟩) hblk]
        exact hc i (by rw [← HN.out]; exact hlt)
      have hoe := okAt_eq l i
      have HBAD : Hid (okAt l i = false → t = false) := Lib.hid fun q => by
        rw [← HT.out, Bool.eq_false_iff]
        intro e
        rw [fgood, Bool.and_eq_true, Bool.and_eq_true, List.all_eq_true] at e
        have := e.2.1 i (List.mem_range.2 (by rw [← HN.out]; exact hlt))
        rw [q] at this
        cases this
      obtain ⟨x, hx⟩ : ∃ x, fu l i = x := ⟨_, rfl⟩
      rw [hx] at c1 hoe
      by_cases h2 : x = -2
      · have HO : Hid (okAt l i = true) := Lib.hid (by rw [hoe, decide_eq_true h2, Bool.true_or])
        subst h2
        clear hc hblk hx hoe
        go_wp2
        go_roundg (n - (i + 1))
        case measure => have := HK.out; have := HLT.out; omega
        case rel =>
          refine ⟨i + 1, by have := HLT.out; omega, by go_num, fun j hj => ?_, K.out⟩
          by_cases e : j = i
          · subst e; exact HO.out
          · exact HA.out j (by omega)
      · have h3 : (x != -2) = true := by simp [h2]
        rw [decide_eq_false h2, Bool.false_or] at hoe
        rcases hbr : bearB l x with _ | _
        · have HF := Lib.hid (HBAD.out (hoe.trans hbr))
          have HB := Lib.hid hbr
          clear hc hblk hx hoe hbr
          go_wp2_with fail
          refine (maybear_is (w := wr) HN.out (HL.out.on K.out.old) HB.out).mono ?_
          rintro e w2 ⟨rfl, hb⟩
          have HO := Lib.hid (K.out.on hb).old
          clear hb c0 c1
          go_wp2
          go_ret
          exact ⟨by rw [HF.out]; rfl, HO.out⟩
        · have HO := Lib.hid (hoe.trans hbr)
          have HB := Lib.hid hbr
          clear hc hblk hx hoe hbr
          go_wp2_with fail
          refine (maybear_is (w := wr) HN.out (HL.out.on K.out.old) HB.out).mono ?_
          rintro e w2 ⟨rfl, hb⟩
          have K2 := Lib.hid (K.out.on hb)
          clear hb c0 c1
          go_wp2
          go_roundg (n - (i + 1))
          case measure => have := HK.out; have := HLT.out; omega
          case rel =>
            refine ⟨i + 1, by have := HLT.out; omega, by go_num, fun j hj => ?_, K2.out⟩
            by_cases e : j = i
            · subst e; exact HO.out
            · exact HA.out j (by omega)
    · have hlt2 : ¬ (i : Int) < (n : Int) := by omega
      have HOK : Hid (∀ j, j < n → okAt l j = true) := Lib.hid fun j hj => HA.out j (by have := HK.out; omega)
      clear HA HK hlt
      go_wp2_with fail
      clear c0
      go_loopg [29] n (fun k p wr => PG2 w n cap w.heap.size A l k p wr)
      case atStart => exact ⟨0, by omega, rfl, fun j h => by omega, K.out⟩
      case round =>
        obtain ⟨i, hk, rfl, ha, hb⟩ := hrel
        have HK := Lib.hid hk
        have K2 := Lib.hid hb
        have HA := Lib.hid ha
        clear hk hb ha K
        have c0 := K2.out.c
        by_cases hlt : i < n
        · have HLT := Lib.hid hlt
          have hlt3 : (i : Int) < (n : Int) := by omega
          rcases hed : ends l n i with _ | _
          · have HF : Hid (t = false) := Lib.hid (by
              rw [← HT.out, Bool.eq_false_iff]
              intro e
              rw [fgood, Bool.and_eq_true, Bool.and_eq_true, List.all_eq_true, List.all_eq_true] at e
              have := e.2.2 i (List.mem_range.2 (by rw [← HN.out]; exact hlt))
              rw [← HN.out, hed] at this
              cases this)
            have HED := Lib.hid hed
            clear hed
            go_wp2_with fail
            refine (pends_is (w := wr) HN.out (by have := H96.out; omega) (HL.out.on K2.out.old) HOK.out HLT.out HED.out).mono ?_
            rintro e w2 ⟨rfl, hb⟩
            have HO := Lib.hid (K2.out.on hb).old
            clear hb c0
            go_wp2
            go_ret
            exact ⟨by rw [HF.out]; rfl, HO.out⟩
          · have HED := Lib.hid hed
            clear hed
            go_wp2_with fail
            refine (pends_is (w := wr) HN.out (by have := H96.out; omega) (HL.out.on K2.out.old) HOK.out HLT.out HED.out).mono ?_
            rintro e w2 ⟨rfl, hb⟩
            have K3 := Lib.hid (K2.out.on hb)
            clear hb c0
            go_wp2
            go_roundg (n - (i + 1))
            case measure => have := HK.out; have := HLT.out; omega
            case rel =>
              refine ⟨i + 1, by have := HLT.out; omega, by go_num, fun j hj => ?_, K3.out⟩
              by_cases e : j = i
              · subst e; exact HED.out
              · exact HA.out j (by omega)
        · have HT2 : Hid (t = true) := Lib.hid (by
            rw [← HT.out, fgood, ← HN.out, decide_eq_true H96.out, Bool.true_and, Bool.and_eq_true, List.all_eq_true, List.all_eq_true]
            refine ⟨fun j hj => HOK.out j (List.mem_range.1 hj), fun j hj => HA.out j ?_⟩
            have := List.mem_range.1 hj
            have := HK.out
            omega)
          have hlt3 : ¬ (i : Int) < (n : Int) := by omega
          clear HA HK hlt
          go_wp2
          go_ret
          exact ⟨by rw [HT2.out]; rfl, K2.out.old⟩

theorem holds_is {A : Option Addr} {n cap : Nat} {l : List Int} {i : Int} {t : Bool} {w : World} (hn : n = l.length) (hL : IntsAt w w.heap.size A l) (ht : there l i = t) :
    Calls Tryz.prog 182 #[.agg #[.slice A n cap], .int .i64 i] w fun e w' => e = .returned (.bool t) ∧ Below w.heap.size w w' := by
  have HN := Lib.hid hn
  have HL := Lib.hid hL
  have hK := Pbx.new w (.slice A n cap) 71
  have c0 := hK.c
  rw [there_eq] at ht
  clear hn hL
  rcases hp : filledB l i with _ | _
  · have HF : Hid (t = false) := Lib.hid (by rw [← ht, hp]; rfl)
    have HP := Lib.hid hp
    clear hp ht
    go_enter Tryz.func182, Tryz.ntmps182
    go_wp2_with fail
    generalize w.alloc (.cells #[.slice A n cap] 71) = w1 at hK c0 ⊢
    refine (filled_is (w := w1) HN.out (HL.out.on hK.old) HP.out).mono ?_
    rintro e w2 ⟨rfl, hb⟩
    have HO := Lib.hid (hK.on hb).old
    clear hb hK c0
    go_wp2
    go_ret
    exact ⟨by rw [HF.out]; rfl, HO.out⟩
  · have HF : Hid (fgood l = t) := Lib.hid (by rw [← ht, hp]; rfl)
    have HP := Lib.hid hp
    clear hp ht
    go_enter Tryz.func182, Tryz.ntmps182
    go_wp2_with fail
    generalize w.alloc (.cells #[.slice A n cap] 71) = w1 at hK c0 ⊢
    refine (filled_is (w := w1) HN.out (HL.out.on hK.old) HP.out).mono ?_
    rintro e w2 ⟨rfl, hb⟩
    have K2 := Lib.hid (hK.on hb)
    clear hb hK c0
    have c0 := K2.out.c
    go_wp2_with fail
    refine (pgood_is (w := w2) HN.out (HL.out.on K2.out.old) HF.out).mono ?_
    rintro e w3 ⟨rfl, hb⟩
    have HO := Lib.hid (K2.out.on hb).old
    clear hb c0
    go_wp2
    go_ret
    exact ⟨rfl, HO.out⟩
end Go.Proofs.YtkpbfbmkolgmgaaGreat
