/-
  The texts Ia, Ib, Ic, Id, Oa, Ob, Oc, Od, Ef, Ex, Ja, Jb, Jc, Jd, Je, Jf, Jg, Ji, Jk, Jl, Jm, Jo, Jr of this seat, one behind the other. Conditions: as each theorem says.
-/
import Derived.Test.YtkpbfbmkolgmgaaA1
import Derived.WalkKit
import Derived.WalkSpells
import Derived.WalkLawsBesides
import Derived.Lib.Hide
import Derived.Deep.CutBlock
import Derived.Deep.LoopGhost
import Derived.Deep.RegionHeld3
import Derived.Deep.DeepCutAuto
import Derived.Deep.CutRange
import Derived.Deep.QuietTactic
import Derived.BigQuiet
import Derived.StillTailTactics
import Derived.Handy
import Derived.Below
import Derived.BigRegion
import Derived.Deep.RegionLaw
import Derived.Deep.AppendLies
import Derived.Laws.AppendOwn
import Derived.Laws.OwnMore
import Derived.ProofKit
import Derived.OpenShut
import Derived.Carry
import Derived.Deep.Slices
namespace Go.Proofs.Ytkpbfbmkolgmgaa

/-- a thing's fields -/
structure Tng where
  ty : Int
  bits : Int
  base : Int
  size : Int
  used : Int
  frm : Int
  badge : Int
  full : Bool
  word : Nat
  d0 : Nat
  d1 : Nat
  d2 : Nat
  d3 : Nat
def Tng.val (t : Tng) : Value := .agg #[.int .i64 t.ty, .int .i64 t.bits, .int .i64 t.base, .int .i64 t.size, .int .i64 t.used, .int .i64 t.frm, .int .i64 t.badge, .bool t.full, .int .u64 (t.word : Int), .int .u64 (t.d0 : Int), .int .u64 (t.d1 : Int), .int .u64 (t.d2 : Int), .int .u64 (t.d3 : Int)]
def Tng.eq (a b : Tng) : Bool := a.ty == b.ty && (a.bits == b.bits && (a.base == b.base && (a.size == b.size && (a.used == b.used && (a.frm == b.frm && (a.badge == b.badge && (a.full == b.full && (a.word == b.word && (a.d0 == b.d0 && (a.d1 == b.d1 && (a.d2 == b.d2 && a.d3 == b.d3)))))))))))
theorem Tng.eq_iff {a b : Tng} : a.eq b = true ↔ a = b := by
  obtain ⟨⟩ := a
  obtain ⟨⟩ := b
  simp only [Tng.eq, Bool.and_eq_true, beq_iff_eq, Tng.mk.injEq]
theorem Tng.eq_self (a : Tng) : a.eq a = true := Tng.eq_iff.2 rfl
theorem Tng.eq_not {a b : Tng} (h : a ≠ b) : a.eq b = false := Bool.eq_false_iff.2 fun e => h (Tng.eq_iff.1 e)
def Tng.of (k : Int) : Tng := ⟨k, 0, 0, 0, 0, 0, 0, false, 0, 0, 0, 0, 0⟩
def Tng.zero : Tng := Tng.of 0

/-! ### which may be -/
def inr3 (n lo hi : Int) : Bool := decide (lo ≤ n) && decide (n ≤ hi)
theorem inr3_iff {n lo hi : Int} : inr3 n lo hi = true ↔ lo ≤ n ∧ n ≤ hi := by simp [inr3]
def tw2 (n : Int) : Int := 2 ^ n.toNat
def Tng.only (t : Tng) : Tng :=
  if t.ty = 1 then { Tng.of 1 with size := t.size, used := t.used }
  else if t.ty = 2 then { Tng.of 2 with bits := t.bits, base := t.base }
  else if t.ty = 3 then (if t.full = true then { Tng.of 3 with full := true, word := t.word, badge := t.badge, frm := t.frm } else Tng.of 3)
  else if t.ty = 4 then { Tng.of 4 with word := t.word }
  else if t.ty = 5 then { Tng.of 5 with d0 := t.d0, d1 := t.d1, d2 := t.d2, d3 := t.d3 }
  else Tng.of t.ty
def Tng.fits (t : Tng) : Bool :=
  if t.ty = 0 then true
  else if t.ty = 1 then inr3 t.size 1 4096 && inr3 t.used 0 t.size
  else if t.ty = 2 then inr3 t.bits 1 4 && inr3 t.base 0 (96 - tw2 t.bits)
  else if t.ty = 3 then inr3 t.badge 0 65535 && inr3 t.frm 0 96
  else decide (t.ty = 4) || decide (t.ty = 5)
def Tng.good (t : Tng) : Bool := t.fits && t.only.eq t
/-- the same, to work with -/
inductive Gth : Tng → Prop where
  | none : Gth (Tng.of 0)
  | room (s u : Int) (h1 : 1 ≤ s) (h2 : s ≤ 4096) (h3 : 0 ≤ u) (h4 : u ≤ s) : Gth { Tng.of 1 with size := s, used := u }
  | node (b s : Int) (h1 : 1 ≤ b) (h2 : b ≤ 4) (h3 : 0 ≤ s) (h4 : s ≤ 96 - tw2 b) : Gth { Tng.of 2 with bits := b, base := s }
  | mail : Gth (Tng.of 3)
  | full (w : Nat) (b f : Int) (h1 : 0 ≤ b) (h2 : b ≤ 65535) (h3 : 0 ≤ f) (h4 : f ≤ 96) : Gth { Tng.of 3 with full := true, word := w, badge := b, frm := f }
  | bell (w : Nat) : Gth { Tng.of 4 with word := w }
  | leaf (a b c d : Nat) : Gth { Tng.of 5 with d0 := a, d1 := b, d2 := c, d3 := d }
theorem tng_good {t : Tng} : t.good = true ↔ Gth t := by
  rw [Tng.good, Bool.and_eq_true, Tng.eq_iff]
  constructor
  · rintro ⟨h1, h2⟩
    unfold Tng.fits at h1
    unfold Tng.only at h2
    by_cases k0 : t.ty = 0
    · rw [if_neg (by omega), if_neg (by omega), if_neg (by omega), if_neg (by omega), if_neg (by omega), k0] at h2
      rw [← h2]
      exact .none
    rw [if_neg k0] at h1
    by_cases k1 : t.ty = 1
    · rw [if_pos k1] at h1 h2
      rw [Bool.and_eq_true, inr3_iff, inr3_iff] at h1
      rw [← h2]
      exact .room _ _ h1.1.1 h1.1.2 h1.2.1 h1.2.2
    rw [if_neg k1] at h1 h2
    by_cases k2 : t.ty = 2
    · rw [if_pos k2] at h1 h2
      rw [Bool.and_eq_true, inr3_iff, inr3_iff] at h1
      rw [← h2]
      exact .node _ _ h1.1.1 h1.1.2 h1.2.1 h1.2.2
    rw [if_neg k2] at h1 h2
    by_cases k3 : t.ty = 3
    · rw [if_pos k3] at h1 h2
      rw [Bool.and_eq_true, inr3_iff, inr3_iff] at h1
      by_cases kf : t.full = true
      · rw [if_pos kf] at h2
        rw [← h2]
        exact .full _ _ _ h1.1.1 h1.1.2 h1.2.1 h1.2.2
      · rw [if_neg kf] at h2
        rw [← h2]
        exact .mail
    rw [if_neg k3] at h1 h2
    by_cases k4 : t.ty = 4
    · rw [if_pos k4] at h2
      rw [← h2]
      exact .bell _
    rw [if_neg k4] at h2
    by_cases k5 : t.ty = 5
    · rw [if_pos k5] at h2
      rw [← h2]
      exact .leaf _ _ _ _
    · simp [k4, k5] at h1
  · intro h
    cases h <;> simp_all [Tng.fits, Tng.only, Tng.of, inr3]
/-- how large the fields of a good one are -/
structure Smallth (t : Tng) : Prop where
  ty : 0 ≤ t.ty ∧ t.ty ≤ 5
  bits : 0 ≤ t.bits ∧ t.bits ≤ 4
  base : 0 ≤ t.base ∧ t.base ≤ 95
  size : 0 ≤ t.size ∧ t.size ≤ 4096
  used : 0 ≤ t.used ∧ t.used ≤ 4096
  frm : 0 ≤ t.frm ∧ t.frm ≤ 96
  badge : 0 ≤ t.badge ∧ t.badge ≤ 65535
theorem tw2_pos (n : Int) : 1 ≤ tw2 n := by
  have : 0 < (2 : Nat) ^ n.toNat := Nat.two_pow_pos _
  rw [tw2, show ((2 : Int) ^ n.toNat) = ((2 ^ n.toNat : Nat) : Int) by simp]
  omega
theorem Gth.small {t : Tng} (h : Gth t) : Smallth t := by
  cases h with
  | node b s h1 h2 h3 h4 =>
    have := tw2_pos b
    exact ⟨by simp [Tng.of], by simp; omega, by simp; omega, by simp [Tng.of], by simp [Tng.of], by simp [Tng.of], by simp [Tng.of]⟩
  | _ => constructor <;> simp [Tng.of] <;> omega

/-! ### its words -/
def Tng.w0 (t : Tng) : Nat := (t.ty + t.bits * 256 + t.base * 65536 + (if t.full = true then 1 else 0) * 65536 * 256 + t.frm * 65536 * 65536).toNat
def Tng.w1 (t : Tng) : Nat := (t.size + t.used * 65536 + t.badge * 65536 * 65536).toNat
def Tng.words (t : Tng) : List Nat := [t.w0, t.w1, t.word, t.d0, t.d1, t.d2, t.d3, 0]
def tput (t : Tng) : List Nat := if t.good = true then t.words else []
def tofw (a b w d0 d1 d2 d3 : Nat) : Tng := ⟨(a % 256 : Nat), (a / 256 % 256 : Nat), (a / 65536 % 256 : Nat), (b % 65536 : Nat), (b / 65536 % 65536 : Nat), (a / 65536 / 65536 % 256 : Nat), (b / 65536 / 65536 % 65536 : Nat), a / 65536 / 256 % 256 == 1, w, d0, d1, d2, d3⟩
def tof (l : List Nat) : Tng := tofw (l.getD 0 0) (l.getD 1 0) (l.getD 2 0) (l.getD 3 0) (l.getD 4 0) (l.getD 5 0) (l.getD 6 0)
def tget (l : List Nat) : Option Tng := if l.length = 8 ∧ (tof l).good = true ∧ (tof l).words = l then some (tof l) else none
theorem tof_words {t : Tng} (h : Gth t) : tof t.words = t := by
  have hs := h.small
  obtain ⟨ty, bits, base, size, used, frm, badge, full, word, d0, d1, d2, d3⟩ := t
  obtain ⟨⟨a1, a2⟩, ⟨b1, b2⟩, ⟨c1, c2⟩, ⟨e1, e2⟩, ⟨f1, f2⟩, ⟨g1, g2⟩, ⟨k1, k2⟩⟩ := hs
  simp only at a1 a2 b1 b2 c1 c2 e1 e2 f1 f2 g1 g2 k1 k2
  simp only [tof, tofw, Tng.words, List.getD_cons_zero, List.getD_cons_succ, Tng.mk.injEq, Tng.w0, Tng.w1, and_true]
  refine ⟨?_, ?_, ?_, ?_, ?_, ?_, ?_, ?_⟩
  · cases full <;> simp <;> omega
  · cases full <;> simp <;> omega
  · cases full <;> simp <;> omega
  · omega
  · omega
  · cases full <;> simp <;> omega
  · omega
  · cases full <;> simp <;> omega
theorem tget_words {t : Tng} (h : Gth t) : tget t.words = some t := by
  rw [tget, if_pos ⟨rfl, by rw [tof_words h]; exact tng_good.2 h, by rw [tof_words h]⟩, tof_words h]
theorem tget_some {l : List Nat} {t : Tng} (h : tget l = some t) : Gth t ∧ t.words = l := by
  rw [tget] at h
  split at h
  · rename_i h1
    injection h with h
    subst h
    exact ⟨tng_good.1 h1.2.1, h1.2.2⟩
  · cases h
theorem tw_inj {a b : Tng} (ha : Gth a) (hb : Gth b) (h : a.words = b.words) : a = b := by rw [← tof_words ha, ← tof_words hb, h]
theorem tw_beq {a b : Tng} (ha : Gth a) (hb : Gth b) : (a.words == b.words) = a.eq b := by
  rw [Bool.eq_iff_iff, beq_iff_eq, Tng.eq_iff]
  exact ⟨tw_inj ha hb, fun e => by rw [e]⟩

/-! ### what one costs, new ones -/
def tcost (k s : Int) : Option Int :=
  if k = 1 then (if inr3 s 1 4096 = true then some s else none)
  else if k = 2 then (if inr3 s 1 4 = true then some (tw2 s) else none)
  else if k = 3 then some 1 else if k = 4 then some 1 else if k = 5 then some 2 else none
def tnewt (k s b : Int) : Tng := if k = 1 then { Tng.of k with size := s } else if k = 2 then { Tng.of k with bits := s, base := b } else Tng.of k
def tnew (k s b : Int) : Option Tng := if (tcost k s).isSome = true ∧ (tnewt k s b).good = true then some (tnewt k s b) else none
theorem tnew_some {k s b : Int} {t : Tng} (h : tnew k s b = some t) : (∃ n, tcost k s = some n ∧ 1 ≤ n) ∧ t.good = true ∧ t.ty = k ∧ t.used = 0 ∧ t.full = false ∧ t.word = 0 ∧ t.d0 = 0 ∧ t.d1 = 0 ∧ t.d2 = 0 ∧ t.d3 = 0 := by
  rw [tnew] at h
  split at h
  · rename_i h1
    injection h with h
    subst h
    refine ⟨?_, h1.2, ?_⟩
    · obtain ⟨n, hn⟩ := Option.isSome_iff_exists.1 h1.1
      refine ⟨n, hn, ?_⟩
      unfold tcost at hn
      by_cases k1 : k = 1
      · rw [if_pos k1] at hn
        split at hn
        · rename_i hs
          have := (inr3_iff.1 hs).1
          injection hn with hn
          omega
        · cases hn
      rw [if_neg k1] at hn
      by_cases k2 : k = 2
      · rw [if_pos k2] at hn
        split at hn
        · injection hn with hn
          have := tw2_pos s
          omega
        · cases hn
      rw [if_neg k2] at hn
      by_cases k3 : k = 3
      · rw [if_pos k3] at hn
        injection hn with hn
        omega
      rw [if_neg k3] at hn
      by_cases k4 : k = 4
      · rw [if_pos k4] at hn
        injection hn with hn
        omega
      rw [if_neg k4] at hn
      split at hn
      · injection hn with hn
        omega
      · cases hn
    · unfold tnewt
      by_cases k1 : k = 1
      · simp [k1, Tng.of]
      · by_cases k2 : k = 2
        · simp [k2, Tng.of]
        · simp [k1, k2, Tng.of]
  · cases h
theorem tnew_none {k s b : Int} (h : tnew k s b = none) : tcost k s = none ∨ k = 2 := by
  rw [tnew] at h
  split at h
  · cases h
  · rename_i h1
    by_cases k2 : k = 2
    · exact .inr k2
    refine .inl ?_
    rcases hc : tcost k s with _ | n
    · rfl
    · exfalso
      refine h1 ⟨by rw [hc]; rfl, ?_⟩
      rw [tng_good]
      unfold tcost at hc
      unfold tnewt
      by_cases k1 : k = 1
      · subst k1
        rw [if_pos rfl] at hc ⊢
        split at hc
        · rename_i hs
          have := inr3_iff.1 hs
          exact .room s 0 this.1 this.2 (by omega) (by omega)
        · cases hc
      rw [if_neg k1, if_neg k2] at hc ⊢
      by_cases k3 : k = 3
      · subst k3; exact .mail
      rw [if_neg k3] at hc
      by_cases k4 : k = 4
      · subst k4; exact .bell 0
      rw [if_neg k4] at hc
      by_cases k5 : k = 5
      · subst k5; exact .leaf 0 0 0 0
      rw [if_neg k5] at hc
      cases hc
end Go.Proofs.Ytkpbfbmkolgmgaa
namespace Go.Proofs.Ytkpbfbmkolgmgaa
open Go.RowKit

/-- words lie in a block below B -/
def WordsAt (w : World) (B : Nat) (A : Option Addr) (l : List Nat) : Prop :=
  0 < l.length → ∃ b o, A = some ⟨b, o, none⟩ ∧ b < B ∧ ∀ (j : Nat) (z : Nat), l[j]? = some z → w.cell? ⟨b, o + j, none⟩ = some (.int .u64 (z : Int))
theorem WordsAt.below {w w' : World} {B : Nat} {A : Option Addr} {l : List Nat} (h : WordsAt w B A l) (hb : Below B w w') : WordsAt w' B A l := fun h0 => by
  obtain ⟨b, o, e, hlt, hc⟩ := h h0
  exact ⟨b, o, e, hlt, fun j a ha => by rw [hb.cell (p := ⟨b, _, none⟩) hlt]; exact hc j a ha⟩
theorem WordsAt.mono {w : World} {B B' : Nat} {A : Option Addr} {l : List Nat} (h : WordsAt w B A l) (hB : B ≤ B') : WordsAt w B' A l := fun h0 => by
  obtain ⟨b, o, e, hlt, hc⟩ := h h0
  exact ⟨b, o, e, by omega, hc⟩
theorem WordsAt.grow {w w' : World} {A : Option Addr} {l : List Nat} (h : WordsAt w w.heap.size A l) (hb : Below w.heap.size w w') : WordsAt w' w'.heap.size A l := (h.below hb).mono hb.size
def ucells (l : List Nat) : List Value := l.map fun z : Nat => .int .u64 (z : Int)
theorem lit_words (w : World) (l : List Nat) (t : TypeId) (cs : Array Value) (hcs : cs = (ucells l).toArray) : WordsAt (w.alloc (.cells cs t)) (w.heap.size + 1) (some ⟨w.heap.size, 0, none⟩) l := fun _ => by
  subst hcs
  have hg := heap_alloc_new w (.cells (ucells l).toArray t)
  refine ⟨w.heap.size, 0, rfl, by omega, fun j z hz => ?_⟩
  rw [Nat.zero_add, cell_of_row _ _ j _ _ _ hg]
  unfold ucells
  simp [hz]
theorem lit_words' (w : World) (l : List Nat) (t : TypeId) (cs : Array Value) (hcs : cs = (ucells l).toArray) : WordsAt (w.alloc (.cells cs t)) (w.alloc (.cells cs t)).heap.size (some ⟨w.heap.size, 0, none⟩) l :=
  (lit_words w l t cs hcs).mono (by simp)
theorem no_words (w : World) : WordsAt w w.heap.size none [] := fun h => absurd h (by simp)

/-! ### the law's words -/
def TwRel (W : World) (n : Nat) (l m : List Nat) (k : Nat) (p : Value) (wr : World) : Prop :=
  ∃ i : Nat, k + i = n ∧ p = .int .i64 i ∧ l.take i = m.take i ∧ Below W.heap.size W wr
/-! ### a thing in a box -/
def tcells (t : Tng) : Array Value := #[.int .i64 t.ty, .int .i64 t.bits, .int .i64 t.base, .int .i64 t.size, .int .i64 t.used, .int .i64 t.frm, .int .i64 t.badge, .bool t.full, .int .u64 (t.word : Int), .int .u64 (t.d0 : Int), .int .u64 (t.d1 : Int), .int .u64 (t.d2 : Int), .int .u64 (t.d3 : Int)]
structure Tbx (W w : World) (g : Nat) (t : Tng) : Prop where
  c0 : w.cell? ⟨g, 0, none⟩ = some (.int .i64 t.ty)
  c1 : w.cell? ⟨g, 1, none⟩ = some (.int .i64 t.bits)
  c2 : w.cell? ⟨g, 2, none⟩ = some (.int .i64 t.base)
  c3 : w.cell? ⟨g, 3, none⟩ = some (.int .i64 t.size)
  c4 : w.cell? ⟨g, 4, none⟩ = some (.int .i64 t.used)
  c5 : w.cell? ⟨g, 5, none⟩ = some (.int .i64 t.frm)
  c6 : w.cell? ⟨g, 6, none⟩ = some (.int .i64 t.badge)
  c7 : w.cell? ⟨g, 7, none⟩ = some (.bool t.full)
  c8 : w.cell? ⟨g, 8, none⟩ = some (.int .u64 (t.word : Int))
  c9 : w.cell? ⟨g, 9, none⟩ = some (.int .u64 (t.d0 : Int))
  c10 : w.cell? ⟨g, 10, none⟩ = some (.int .u64 (t.d1 : Int))
  c11 : w.cell? ⟨g, 11, none⟩ = some (.int .u64 (t.d2 : Int))
  c12 : w.cell? ⟨g, 12, none⟩ = some (.int .u64 (t.d3 : Int))
  free : ∀ k, w.frozen? ⟨g, k, none⟩ = false
  old : Below W.heap.size W w
  base : W.heap.size ≤ g
  lt : g < w.heap.size
theorem Tbx.new (w : World) (t : Tng) (ty : TypeId) : Tbx w (w.alloc (.cells (tcells t) ty)) w.heap.size t := by
  have hg := heap_alloc_new w (.cells (tcells t) ty)
  constructor
  case old => exact below_alloc _ _
  case base => exact Nat.le_refl _
  case lt => simp
  case free => exact fun k => frozen_of_row _ _ k _ _ hg
  all_goals (rw [cell_of_row _ _ _ _ _ _ hg]; rfl)
theorem Tbx.on {W w w' : World} {g : Nat} {t : Tng} (h : Tbx W w g t) (hb : Below w.heap.size w w') : Tbx W w' g t := by
  have e : ∀ k, w'.cell? ⟨g, k, none⟩ = w.cell? ⟨g, k, none⟩ := fun k => hb.cell (p := ⟨g, k, none⟩) h.lt
  refine ⟨?_, ?_, ?_, ?_, ?_, ?_, ?_, ?_, ?_, ?_, ?_, ?_, ?_, fun k => ?_, below_on h.old hb, h.base, Nat.lt_of_lt_of_le h.lt hb.size⟩
  all_goals first | rw [e] | skip
  · exact h.c0
  · exact h.c1
  · exact h.c2
  · exact h.c3
  · exact h.c4
  · exact h.c5
  · exact h.c6
  · exact h.c7
  · exact h.c8
  · exact h.c9
  · exact h.c10
  · exact h.c11
  · exact h.c12
  · rw [World.frozen?_of_block (hb.block _ h.lt)]; exact h.free k
end Go.Proofs.Ytkpbfbmkolgmgaa
namespace Go.Proofs.Ytkpbfbmkolgmgaa
open Go.RowKit
def TwoRel (W : World) (n : Nat) (k : Nat) (p q : Value) (wr : World) : Prop :=
  ∃ i : Nat, k + i = n ∧ p = .int .i64 ((2 ^ i : Nat) : Int) ∧ q = .int .i64 i ∧ wr = W
/-! ### two things held against each other -/
theorem tall_range : ∀ (xs ys : List Int), xs.length = ys.length → ((List.range xs.length).all fun i => xs.getD i 0 == ys.getD i 0) = (xs == ys)
  | [], [], _ => rfl
  | x :: xs, y :: ys, h => by
    have ih := tall_range xs ys (by simpa using h)
    rw [List.length_cons, List.range_succ_eq_map, List.all_cons, List.all_map]
    simp only [List.getD_cons_zero, Function.comp_def, List.getD_cons_succ, ih]
    simp [List.cons_beq_cons]
  | [], _ :: _, h => by simp at h
  | _ :: _, [], h => by simp at h
def tucells (l : List Int) : List Value := l.map (.int .u64)
theorem tucells_get {zs : List Int} {j : Nat} (h : j < zs.length) : (tucells zs)[j]? = some (.int .u64 (zs.getD j 0)) := by simp [tucells, h]
theorem tequal_words {P : Program} (w : World) (d : Nat) (t e : TypeId) (n : Nat) (ht : P.underlying t = some (.array n e)) (he : P.underlying e = some (.int .u64)) (hsz : ∀ w, (sizeOf e).run P w = .ok 1 w)
    (xs ys : List Int) (hx : xs.length = n) (hy : ys.length = n) :
    (Op.equalIn (d + 2) t (.agg (tucells xs).toArray) (.agg (tucells ys).toArray)).run P w = .ok (xs == ys) w := by
  rw [← tall_range xs ys (hx.trans hy.symm), hx, List.range_eq_range', Op.equalIn]
  simp only [Sem.run_bind, run_underlying ht, Result.andThen_ok, hsz, Std.Legacy.Range.forIn_eq_forIn_range', Std.Legacy.Range.size, Nat.sub_zero, Nat.add_sub_cancel, Nat.div_one]
  have hl : ∀ i ∈ List.range' 0 n 1, i < n := fun i hi => by simpa using (List.mem_range'_1.1 hi).2
  generalize List.range' 0 n 1 = l at hl ⊢
  induction l with
  | nil => simp
  | cons i l ih =>
    have hi : i < n := hl i (by simp)
    have px : (Go.part e (tucells xs).toArray (i * 1)).run P w = .ok (.int .u64 (xs.getD i 0)) w := by
      have := tucells_get (zs := xs) (j := i) (by omega)
      simp [Go.part, isAgg, run_underlying he, this]
    have py : (Go.part e (tucells ys).toArray (i * 1)).run P w = .ok (.int .u64 (ys.getD i 0)) w := by
      have := tucells_get (zs := ys) (j := i) (by omega)
      simp [Go.part, isAgg, run_underlying he, this]
    have pe : (Op.equalIn (d + 1) e (.int .u64 (xs.getD i 0)) (.int .u64 (ys.getD i 0))).run P w = .ok (xs.getD i 0 == ys.getD i 0) w := by
      rw [run_equalIn_int w d e .u64 .u64 _ _ he]
    simp only [List.forIn_cons, Sem.run_bind, px, py, pe, Result.andThen_ok, List.all_cons]
    cases hb : (xs.getD i 0 == ys.getD i 0)
    · simp
    · simp only [Bool.not_true, Bool.false_eq_true, if_false, Sem.run_pure, Result.andThen_ok, Bool.true_and]
      exact ih fun j hj => hl j (by simp [hj])
theorem tsize23 : (Try.prog.info? 29).map (·.size) = some 1 := by kernel_rfl
theorem trun_size23 (w : World) : (sizeOf 29).run Try.prog w = .ok 1 w := by
  have h := tsize23
  cases hq : Try.prog.info? 29 with
  | none => simp [hq] at h
  | some i => simp [hq] at h; simp [sizeOf, typeInfo, hq, h]
theorem four_beq (a b c d a' b' c' d' : Nat) : ([(a : Int), (b : Int), (c : Int), (d : Int)] == [(a' : Int), (b' : Int), (c' : Int), (d' : Int)]) = (a == a' && (b == b' && (c == c' && d == d'))) := by
  have e : ∀ x y : Nat, ((x : Int) == (y : Int)) = (x == y) := fun x y => by
    rw [Bool.eq_iff_iff, beq_iff_eq, beq_iff_eq]
    exact Int.ofNat_inj
  simp only [List.cons_beq_cons, e]
  simp
theorem teq24 (d : Nat) (a b c e a' b' c' e' : Nat) (w : World) : (Op.equalIn (d + 2) 64 (.agg #[.int .u64 (a : Int), .int .u64 (b : Int), .int .u64 (c : Int), .int .u64 (e : Int)]) (.agg #[.int .u64 (a' : Int), .int .u64 (b' : Int), .int .u64 (c' : Int), .int .u64 (e' : Int)])).run Try.prog w = .ok (a == a' && (b == b' && (c == c' && e == e'))) w := by
  rw [← four_beq]
  exact tequal_words w d 64 29 4 Try.underlying64 Try.underlying29 trun_size23 [a, b, c, e] [a', b', c', e'] rfl rfl
set_option maxHeartbeats 1000000 in
theorem teq26 (a b : Tng) (w : World) : (Op.equalIn 10000 66 a.val b.val).run Try.prog w = .ok (a.eq b) w := by
  obtain ⟨a0, a1, a2, a3, a4, a5, a6, a7, a8, a9, a10, a11, a12⟩ := a
  obtain ⟨b0, b1, b2, b3, b4, b5, b6, b7, b8, b9, b10, b11, b12⟩ := b
  have h := fun w => teq24 9997 a9 a10 a11 a12 b9 b10 b11 b12 w
  unfold Tng.val Tng.eq
  simp only
  generalize (a9 == b9 && (a10 == b10 && (a11 == b11 && a12 == b12))) = z at h ⊢
  by_cases h0 : a0 = b0
  case neg => simp [go_sem, h0]
  subst h0
  by_cases h1 : a1 = b1
  case neg => simp [go_sem, h1]
  subst h1
  by_cases h2 : a2 = b2
  case neg => simp [go_sem, h2]
  subst h2
  by_cases h3 : a3 = b3
  case neg => simp [go_sem, h3]
  subst h3
  by_cases h4 : a4 = b4
  case neg => simp [go_sem, h4]
  subst h4
  by_cases h5 : a5 = b5
  case neg => simp [go_sem, h5]
  subst h5
  by_cases h6 : a6 = b6
  case neg => simp [go_sem, h6]
  subst h6
  by_cases h7 : a7 = b7
  case neg => simp [go_sem, h7]
  subst h7
  by_cases h8 : a8 = b8
  case neg =>
    have q : ¬ (a8 : Int) = (b8 : Int) := by omega
    simp [go_sem, h8, q]
  subst h8
  cases z <;> simp [go_sem, h]
end Go.Proofs.Ytkpbfbmkolgmgaa
namespace Go.Proofs.Ytkpbfbmkolgmgaa
open Go.RowKit

end Go.Proofs.Ytkpbfbmkolgmgaa
namespace Go.Proofs.Ytkpbfbmkolgmgaa

/-! ### which may be -/
def Tng.kin (t : Tng) : Tng :=
  if t.ty = 1 then { Tng.of 1 with size := t.size, used := t.used }
  else if t.ty = 2 then { Tng.of 2 with bits := t.bits, base := t.base }
  else if t.ty = 3 then (if t.full = true then { Tng.of 3 with full := true, word := t.word, badge := t.badge, frm := t.frm } else Tng.of 3)
  else if t.ty = 4 then { Tng.of 4 with word := t.word }
  else if t.ty = 5 then { Tng.of 5 with d0 := t.d0, d1 := t.d1, d2 := t.d2, d3 := t.d3 }
  else Tng.of 0
def Tng.fitp (t : Tng) : Bool :=
  if t.ty = 1 then inr3 t.size 1 4096 && inr3 t.used 0 t.size
  else if t.ty = 2 then inr3 t.bits 1 4 && inr3 t.base 0 (96 - tw2 t.bits)
  else inr3 t.badge 0 65535 && inr3 t.frm 0 96
theorem good_code (t : Tng) : t.good = (t.eq t.kin && t.fitp) := by
  rw [Bool.eq_iff_iff, tng_good, Bool.and_eq_true, Tng.eq_iff]
  constructor
  · intro h
    cases h <;> simp_all [Tng.kin, Tng.fitp, Tng.of, inr3]
  · rintro ⟨h2, h1⟩
    unfold Tng.fitp at h1
    unfold Tng.kin at h2
    by_cases k1 : t.ty = 1
    · rw [if_pos k1] at h1 h2
      rw [Bool.and_eq_true, inr3_iff, inr3_iff] at h1
      rw [h2]
      exact .room _ _ h1.1.1 h1.1.2 h1.2.1 h1.2.2
    rw [if_neg k1] at h1 h2
    by_cases k2 : t.ty = 2
    · rw [if_pos k2] at h1 h2
      rw [Bool.and_eq_true, inr3_iff, inr3_iff] at h1
      rw [h2]
      exact .node _ _ h1.1.1 h1.1.2 h1.2.1 h1.2.2
    rw [if_neg k2] at h1 h2
    rw [Bool.and_eq_true, inr3_iff, inr3_iff] at h1
    by_cases k3 : t.ty = 3
    · rw [if_pos k3] at h2
      by_cases kf : t.full = true
      · rw [if_pos kf] at h2
        rw [h2]
        exact .full _ _ _ h1.1.1 h1.1.2 h1.2.1 h1.2.2
      · rw [if_neg kf] at h2
        rw [h2]
        exact .mail
    rw [if_neg k3] at h2
    by_cases k4 : t.ty = 4
    · rw [if_pos k4] at h2
      rw [h2]
      exact .bell _
    rw [if_neg k4] at h2
    by_cases k5 : t.ty = 5
    · rw [if_pos k5] at h2
      rw [h2]
      exact .leaf _ _ _ _
    rw [if_neg k5] at h2
    rw [h2]
    exact .none

/-! ### its fields in a word -/
/-! ### its words, as the program puts them -/
/-! ### what is read -/
end Go.Proofs.Ytkpbfbmkolgmgaa
namespace Go.Proofs.Ytkpbfbmkolgmgaa
open Go.RowKit

theorem sizefits_is (s : Int) (w : World) : Calls Try.prog 76 #[.int .i64 s] w fun e w' => e = .returned (.bool (inr3 s 1 4096)) ∧ w' = w := by
  by_cases h1 : 1 ≤ s
  · by_cases h2 : s ≤ 4096
    · have HF : Hid (inr3 s 1 4096 = true) := Lib.hid (inr3_iff.2 ⟨h1, h2⟩)
      go_enter Try.func76, Try.ntmps76
      go_wp2
      go_ret
      exact ⟨by rw [HF.out]; rfl, rfl⟩
    · have HF : Hid (inr3 s 1 4096 = false) := Lib.hid (Bool.eq_false_iff.2 fun e => h2 (inr3_iff.1 e).2)
      go_enter Try.func76, Try.ntmps76
      go_wp2
      go_ret
      exact ⟨by rw [HF.out]; rfl, rfl⟩
  · have HF : Hid (inr3 s 1 4096 = false) := Lib.hid (Bool.eq_false_iff.2 fun e => h1 (inr3_iff.1 e).1)
    go_enter Try.func76, Try.ntmps76
    go_wp2
    go_ret
    exact ⟨by rw [HF.out]; rfl, rfl⟩
theorem bitsfit_is (s : Int) (w : World) : Calls Try.prog 77 #[.int .i64 s] w fun e w' => e = .returned (.bool (inr3 s 1 4)) ∧ w' = w := by
  by_cases h1 : 1 ≤ s
  · by_cases h2 : s ≤ 4
    · have HF : Hid (inr3 s 1 4 = true) := Lib.hid (inr3_iff.2 ⟨h1, h2⟩)
      go_enter Try.func77, Try.ntmps77
      go_wp2
      go_ret
      exact ⟨by rw [HF.out]; rfl, rfl⟩
    · have HF : Hid (inr3 s 1 4 = false) := Lib.hid (Bool.eq_false_iff.2 fun e => h2 (inr3_iff.1 e).2)
      go_enter Try.func77, Try.ntmps77
      go_wp2
      go_ret
      exact ⟨by rw [HF.out]; rfl, rfl⟩
  · have HF : Hid (inr3 s 1 4 = false) := Lib.hid (Bool.eq_false_iff.2 fun e => h1 (inr3_iff.1 e).1)
    go_enter Try.func77, Try.ntmps77
    go_wp2
    go_ret
    exact ⟨by rw [HF.out]; rfl, rfl⟩
theorem sizefits_at {s : Int} {z : Bool} (h : inr3 s 1 4096 = z) (w : World) : Calls Try.prog 76 #[.int .i64 s] w fun e w' => e = .returned (.bool z) ∧ w' = w := h ▸ sizefits_is s w
theorem bitsfit_at {s : Int} {z : Bool} (h : inr3 s 1 4 = z) (w : World) : Calls Try.prog 77 #[.int .i64 s] w fun e w' => e = .returned (.bool z) ∧ w' = w := h ▸ bitsfit_is s w
theorem tslots_at {s n : Int} (h1 : inr3 s 1 4 = true) (hn : tw2 s = n) (w : World) : Calls Try.prog 78 #[.int .i64 s] w fun e w' => e = .returned (.int .i64 n) ∧ w' = w := by
  subst hn
  have h := inr3_iff.1 h1
  have h4 : s = 1 ∨ s = 2 ∨ s = 3 ∨ s = 4 := by omega
  clear h h1
  rcases h4 with rfl | rfl | rfl | rfl
  all_goals
    go_enter Try.func78, Try.ntmps78
    go_wp2
    go_ret
    exact ⟨rfl, rfl⟩
/-! ### ofKind -/
set_option maxHeartbeats 4000000 in
theorem kind_any (t : Tng) (w : World) : Calls Try.prog 56 #[t.val] w fun e w' => e = .returned t.kin.val ∧ Below w.heap.size w w' := by
  obtain ⟨ty, bits, base, size, used, frm, badge, full, word, d0, d1, d2, d3⟩ := t
  obtain ⟨v, hv⟩ : ∃ v, (Tng.mk ty bits base size used frm badge full word d0 d1 d2 d3).kin.val = v := ⟨_, rfl⟩
  rw [hv]
  have HV := Lib.hid hv
  clear hv
  unfold Tng.val at *
  simp only at *
  by_cases k1 : ty = 1
  · subst k1
    go_enter Try.func56, Try.ntmps56
    go_wp2
    go_returns
    exact ⟨by rw [← HV.out]; rfl, below_on (below_alloc _ _) (below_alloc _ _)⟩
  by_cases k2 : ty = 2
  · subst k2
    go_enter Try.func56, Try.ntmps56
    go_wp2
    go_returns
    exact ⟨by rw [← HV.out]; rfl, below_on (below_alloc _ _) (below_alloc _ _)⟩
  by_cases k3 : ty = 3
  · subst k3
    cases full
    · go_enter Try.func56, Try.ntmps56
      go_wp2
      go_returns
      exact ⟨by rw [← HV.out]; rfl, below_on (below_alloc _ _) (below_alloc _ _)⟩
    · go_enter Try.func56, Try.ntmps56
      go_wp2
      go_returns
      exact ⟨by rw [← HV.out]; rfl, below_on (below_alloc _ _) (below_alloc _ _)⟩
  by_cases k4 : ty = 4
  · subst k4
    go_enter Try.func56, Try.ntmps56
    go_wp2
    go_returns
    exact ⟨by rw [← HV.out]; rfl, below_on (below_alloc _ _) (below_alloc _ _)⟩
  by_cases k5 : ty = 5
  · subst k5
    go_enter Try.func56, Try.ntmps56
    go_wp2
    go_returns
    exact ⟨by rw [← HV.out]; rfl, below_on (below_alloc _ _) (below_alloc _ _)⟩
  · have hk : (Tng.mk ty bits base size used frm badge full word d0 d1 d2 d3).kin = Tng.of 0 := by
      unfold Tng.kin
      rw [if_neg k1, if_neg k2, if_neg k3, if_neg k4, if_neg k5]
    have HK := Lib.hid hk
    clear hk
    go_enter Try.func56, Try.ntmps56
    go_wp2
    go_returns
    exact ⟨by rw [← HV.out, HK.out]; rfl, below_on (below_alloc _ _) (below_alloc _ _)⟩
end Go.Proofs.Ytkpbfbmkolgmgaa
namespace Go.Proofs.Ytkpbfbmkolgmgaa
open Go.RowKit

set_option maxHeartbeats 4000000 in
theorem tfits1 (bits base size used frm badge : Int) (full : Bool) (word d0 d1 d2 d3 : Nat) (w : World) :
    Calls Try.prog 57 #[.agg #[.int .i64 1, .int .i64 bits, .int .i64 base, .int .i64 size, .int .i64 used, .int .i64 frm, .int .i64 badge, .bool full, .int .u64 (word : Int), .int .u64 (d0 : Int), .int .u64 (d1 : Int), .int .u64 (d2 : Int), .int .u64 (d3 : Int)]] w fun e w' => e = .returned (.bool (Tng.mk 1 bits base size used frm badge full word d0 d1 d2 d3).fitp) ∧ Below w.heap.size w w' := by
  have HG : Hid ((Tng.mk 1 bits base size used frm badge full word d0 d1 d2 d3).fitp = (inr3 size 1 4096 && inr3 used 0 size)) := Lib.hid rfl
  generalize (Tng.mk 1 bits base size used frm badge full word d0 d1 d2 d3).fitp = g at HG ⊢
  rcases h1 : inr3 size 1 4096 with _ | _
  · have H1 := Lib.hid h1
    have HF : Hid (g = false) := Lib.hid (by rw [HG.out, H1.out]; rfl)
    clear h1
    go_enter Try.func57, Try.ntmps57
    go_wp2_with ((go_at_call 76; ((with_reducible refine (sizefits_at H1.out _).mono ?_); rintro e w' ⟨rfl, rfl⟩)))
    go_ret
    exact ⟨by rw [HF.out]; rfl, below_alloc _ _⟩
  have H1 := Lib.hid h1
  clear h1
  by_cases h2 : 0 ≤ used
  · by_cases h3 : used ≤ size
    · have HF : Hid (g = true) := Lib.hid (by rw [HG.out, H1.out, inr3_iff.2 ⟨h2, h3⟩]; rfl)
      go_enter Try.func57, Try.ntmps57
      go_wp2_with ((go_at_call 76; ((with_reducible refine (sizefits_at H1.out _).mono ?_); rintro e w' ⟨rfl, rfl⟩)))
      go_ret
      exact ⟨by rw [HF.out]; rfl, below_alloc _ _⟩
    · have HF : Hid (g = false) := Lib.hid (by rw [HG.out, H1.out, Bool.eq_false_iff.2 fun e => h3 (inr3_iff.1 e).2]; rfl)
      have hd : decide (used ≤ size) = false := decide_eq_false h3
      go_enter Try.func57, Try.ntmps57
      go_wp2_with ((go_at_call 76; ((with_reducible refine (sizefits_at H1.out _).mono ?_); rintro e w' ⟨rfl, rfl⟩)))
      go_ret
      exact ⟨by rw [HF.out]; rfl, below_alloc _ _⟩
  · have HF : Hid (g = false) := Lib.hid (by rw [HG.out, H1.out, Bool.eq_false_iff.2 fun e => h2 (inr3_iff.1 e).1]; rfl)
    go_enter Try.func57, Try.ntmps57
    go_wp2_with ((go_at_call 76; ((with_reducible refine (sizefits_at H1.out _).mono ?_); rintro e w' ⟨rfl, rfl⟩)))
    go_ret
    exact ⟨by rw [HF.out]; rfl, below_alloc _ _⟩
set_option maxHeartbeats 4000000 in
theorem tfits0 (ty : Int) (bits base size used frm badge : Int) (full : Bool) (word d0 d1 d2 d3 : Nat) (k1 : ¬ ty = 1) (k2 : ¬ ty = 2) (w : World) :
    Calls Try.prog 57 #[.agg #[.int .i64 ty, .int .i64 bits, .int .i64 base, .int .i64 size, .int .i64 used, .int .i64 frm, .int .i64 badge, .bool full, .int .u64 (word : Int), .int .u64 (d0 : Int), .int .u64 (d1 : Int), .int .u64 (d2 : Int), .int .u64 (d3 : Int)]] w fun e w' => e = .returned (.bool (Tng.mk ty bits base size used frm badge full word d0 d1 d2 d3).fitp) ∧ Below w.heap.size w w' := by
  have HG : Hid ((Tng.mk ty bits base size used frm badge full word d0 d1 d2 d3).fitp = (inr3 badge 0 65535 && inr3 frm 0 96)) := Lib.hid (by unfold Tng.fitp; rw [if_neg k1, if_neg k2])
  generalize (Tng.mk ty bits base size used frm badge full word d0 d1 d2 d3).fitp = g at HG ⊢
  by_cases h1 : 0 ≤ badge
  · by_cases h2 : badge ≤ 65535
    · by_cases h3 : 0 ≤ frm
      · by_cases h4 : frm ≤ 96
        ·
          have HF : Hid (g = true) := Lib.hid (by rw [HG.out, inr3_iff.2 ⟨h1, h2⟩, inr3_iff.2 ⟨h3, h4⟩]; rfl)
          go_enter Try.func57, Try.ntmps57
          go_wp2
          go_ret
          exact ⟨by rw [HF.out]; rfl, below_alloc _ _⟩
        ·
          have HF : Hid (g = false) := Lib.hid (by rw [HG.out, Bool.eq_false_iff.2 fun e : inr3 frm 0 96 = true => h4 (inr3_iff.1 e).2]; simp)
          go_enter Try.func57, Try.ntmps57
          go_wp2
          go_ret
          exact ⟨by rw [HF.out]; rfl, below_alloc _ _⟩
      ·
        have HF : Hid (g = false) := Lib.hid (by rw [HG.out, Bool.eq_false_iff.2 fun e : inr3 frm 0 96 = true => h3 (inr3_iff.1 e).1]; simp)
        go_enter Try.func57, Try.ntmps57
        go_wp2
        go_ret
        exact ⟨by rw [HF.out]; rfl, below_alloc _ _⟩
    ·
      have HF : Hid (g = false) := Lib.hid (by rw [HG.out, Bool.eq_false_iff.2 fun e : inr3 badge 0 65535 = true => h2 (inr3_iff.1 e).2]; rfl)
      go_enter Try.func57, Try.ntmps57
      go_wp2
      go_ret
      exact ⟨by rw [HF.out]; rfl, below_alloc _ _⟩
  ·
    have HF : Hid (g = false) := Lib.hid (by rw [HG.out, Bool.eq_false_iff.2 fun e : inr3 badge 0 65535 = true => h1 (inr3_iff.1 e).1]; rfl)
    go_enter Try.func57, Try.ntmps57
    go_wp2
    go_ret
    exact ⟨by rw [HF.out]; rfl, below_alloc _ _⟩
set_option maxHeartbeats 4000000 in
theorem tfits2 (bits base size used frm badge : Int) (full : Bool) (word d0 d1 d2 d3 : Nat) (w : World) :
    Calls Try.prog 57 #[.agg #[.int .i64 2, .int .i64 bits, .int .i64 base, .int .i64 size, .int .i64 used, .int .i64 frm, .int .i64 badge, .bool full, .int .u64 (word : Int), .int .u64 (d0 : Int), .int .u64 (d1 : Int), .int .u64 (d2 : Int), .int .u64 (d3 : Int)]] w fun e w' => e = .returned (.bool (Tng.mk 2 bits base size used frm badge full word d0 d1 d2 d3).fitp) ∧ Below w.heap.size w w' := by
  have HG : Hid ((Tng.mk 2 bits base size used frm badge full word d0 d1 d2 d3).fitp = (inr3 bits 1 4 && inr3 base 0 (96 - tw2 bits))) := Lib.hid rfl
  generalize (Tng.mk 2 bits base size used frm badge full word d0 d1 d2 d3).fitp = g at HG ⊢
  rcases h1 : inr3 bits 1 4 with _ | _
  · have H1 := Lib.hid h1
    have HF : Hid (g = false) := Lib.hid (by rw [HG.out, H1.out]; rfl)
    clear h1
    have hK := Tbx.new w (Tng.mk 2 bits base size used frm badge full word d0 d1 d2 d3) 66
    unfold tcells at hK
    go_enter Try.func57, Try.ntmps57
    go_wp2_with fail
    generalize w.alloc _ = w1 at hK ⊢
    have HO := Lib.hid hK.old
    obtain ⟨c0, c1, c2, c3, c4, c5, c6, c7, c8, c9, c10, c11, c12, _, _, _, lt⟩ := hK
    simp only at c0 c1 c2 c3 c4 c5 c6 c7 c8 c9 c10 c11 c12
    go_wp2_with fail
    go_quiet ((first | (go_at_call 77; with_reducible refine Calls.quiet_of_same (bitsfit_at H1.out _))))
    go_wp2
    go_ret
    exact ⟨by rw [HF.out]; rfl, below_draws HO.out _⟩
  have hb := inr3_iff.1 h1
  have h16 : 1 ≤ tw2 bits ∧ tw2 bits ≤ 16 := by
    obtain ⟨k, rfl⟩ : ∃ k : Nat, bits = k := ⟨bits.toNat, by omega⟩
    have : k = 1 ∨ k = 2 ∨ k = 3 ∨ k = 4 := by omega
    rcases this with rfl | rfl | rfl | rfl <;> decide
  have H1 := Lib.hid h1
  obtain ⟨q, hq⟩ : ∃ q, tw2 bits = q := ⟨_, rfl⟩
  rw [hq] at h16 HG
  obtain ⟨h5, h6⟩ := h16
  have HQ := Lib.hid hq
  clear h1 hb hq
  by_cases h2 : 0 ≤ base
  · by_cases h3 : base ≤ 96 - q
    · have HF : Hid (g = true) := Lib.hid (by rw [HG.out, H1.out, inr3_iff.2 ⟨h2, h3⟩]; rfl)
      have hK := Tbx.new w (Tng.mk 2 bits base size used frm badge full word d0 d1 d2 d3) 66
      unfold tcells at hK
      go_enter Try.func57, Try.ntmps57
      go_wp2_with fail
      generalize w.alloc _ = w1 at hK ⊢
      have HO := Lib.hid hK.old
      obtain ⟨c0, c1, c2, c3, c4, c5, c6, c7, c8, c9, c10, c11, c12, _, _, _, lt⟩ := hK
      simp only at c0 c1 c2 c3 c4 c5 c6 c7 c8 c9 c10 c11 c12
      go_wp2_with fail
      go_quiet ((first | (go_at_call 77; with_reducible refine Calls.quiet_of_same (bitsfit_at H1.out _)) | (go_at_call 78; with_reducible refine Calls.quiet_of_same (tslots_at H1.out HQ.out _))))
      go_wp2
      go_ret
      exact ⟨by rw [HF.out]; rfl, below_draws HO.out _⟩
    · have HF : Hid (g = false) := Lib.hid (by rw [HG.out, H1.out, Bool.eq_false_iff.2 fun e => h3 (inr3_iff.1 e).2]; rfl)
      have hd : decide (base ≤ 96 - q) = false := decide_eq_false h3
      have hK := Tbx.new w (Tng.mk 2 bits base size used frm badge full word d0 d1 d2 d3) 66
      unfold tcells at hK
      go_enter Try.func57, Try.ntmps57
      go_wp2_with fail
      generalize w.alloc _ = w1 at hK ⊢
      have HO := Lib.hid hK.old
      obtain ⟨c0, c1, c2, c3, c4, c5, c6, c7, c8, c9, c10, c11, c12, _, _, _, lt⟩ := hK
      simp only at c0 c1 c2 c3 c4 c5 c6 c7 c8 c9 c10 c11 c12
      go_wp2_with fail
      go_quiet ((first | (go_at_call 77; with_reducible refine Calls.quiet_of_same (bitsfit_at H1.out _)) | (go_at_call 78; with_reducible refine Calls.quiet_of_same (tslots_at H1.out HQ.out _))))
      go_wp2
      go_ret
      exact ⟨by rw [HF.out]; rfl, below_draws HO.out _⟩
  · have HF : Hid (g = false) := Lib.hid (by rw [HG.out, H1.out, Bool.eq_false_iff.2 fun e => h2 (inr3_iff.1 e).1]; rfl)
    have hd : decide (0 ≤ base) = false := decide_eq_false h2
    have hK := Tbx.new w (Tng.mk 2 bits base size used frm badge full word d0 d1 d2 d3) 66
    unfold tcells at hK
    go_enter Try.func57, Try.ntmps57
    go_wp2_with fail
    generalize w.alloc _ = w1 at hK ⊢
    have HO := Lib.hid hK.old
    obtain ⟨c0, c1, c2, c3, c4, c5, c6, c7, c8, c9, c10, c11, c12, _, _, _, lt⟩ := hK
    simp only at c0 c1 c2 c3 c4 c5 c6 c7 c8 c9 c10 c11 c12
    go_wp2_with fail
    go_quiet ((first | (go_at_call 77; with_reducible refine Calls.quiet_of_same (bitsfit_at H1.out _))))
    go_wp2
    go_ret
    exact ⟨by rw [HF.out]; rfl, below_draws HO.out _⟩
theorem tfits_any (t : Tng) (w : World) : Calls Try.prog 57 #[t.val] w fun e w' => e = .returned (.bool t.fitp) ∧ Below w.heap.size w w' := by
  obtain ⟨ty, bits, base, size, used, frm, badge, full, word, d0, d1, d2, d3⟩ := t
  by_cases k1 : ty = 1
  · subst k1
    exact tfits1 bits base size used frm badge full word d0 d1 d2 d3 w
  by_cases k2 : ty = 2
  · subst k2
    exact tfits2 bits base size used frm badge full word d0 d1 d2 d3 w
  · exact tfits0 ty bits base size used frm badge full word d0 d1 d2 d3 k1 k2 w
end Go.Proofs.Ytkpbfbmkolgmgaa
namespace Go.Proofs.Ytkpbfbmkolgmgaa
open Go.RowKit

theorem Tbx.drew {W w : World} {g : Nat} {t : Tng} (h : Tbx W w g t) : Tbx W w.drew g t := h.on (below_self w).drew
theorem Tbx.drewN {W w : World} {g : Nat} {t : Tng} (h : Tbx W w g t) (k : Nat) : Tbx W (w.drewN k) g t := h.on (below_draws (below_self w) k)
/-- a thing's box, cell by cell, behind a call -/
theorem Tbx.ons {W v w' : World} {g : Nat} {ty bits base size used frm badge : Int} {full : Bool} {word d0 d1 d2 d3 : Nat} (h : Tbx W v g (Tng.mk ty bits base size used frm badge full word d0 d1 d2 d3)) (hb : Below v.heap.size v w') : w'.cell? ⟨g, 0, none⟩ = some (.int .i64 ty) ∧ w'.cell? ⟨g, 1, none⟩ = some (.int .i64 bits) ∧ w'.cell? ⟨g, 2, none⟩ = some (.int .i64 base) ∧ w'.cell? ⟨g, 3, none⟩ = some (.int .i64 size) ∧ w'.cell? ⟨g, 4, none⟩ = some (.int .i64 used) ∧ w'.cell? ⟨g, 5, none⟩ = some (.int .i64 frm) ∧ w'.cell? ⟨g, 6, none⟩ = some (.int .i64 badge) ∧ w'.cell? ⟨g, 7, none⟩ = some (.bool full) ∧ w'.cell? ⟨g, 8, none⟩ = some (.int .u64 (word : Int)) ∧ w'.cell? ⟨g, 9, none⟩ = some (.int .u64 (d0 : Int)) ∧ w'.cell? ⟨g, 10, none⟩ = some (.int .u64 (d1 : Int)) ∧ w'.cell? ⟨g, 11, none⟩ = some (.int .u64 (d2 : Int)) ∧ w'.cell? ⟨g, 12, none⟩ = some (.int .u64 (d3 : Int)) ∧ Tbx W w' g (Tng.mk ty bits base size used frm badge full word d0 d1 d2 d3) :=
  have k := h.on hb
  ⟨k.c0, k.c1, k.c2, k.c3, k.c4, k.c5, k.c6, k.c7, k.c8, k.c9, k.c10, k.c11, k.c12, k⟩
theorem kind_tb {W v : World} {g : Nat} {ty bits base size used frm badge : Int} {full : Bool} {word d0 d1 d2 d3 : Nat} {s : Value} (h : Tbx W v g (Tng.mk ty bits base size used frm badge full word d0 d1 d2 d3)) (hk : Hid ((Tng.mk ty bits base size used frm badge full word d0 d1 d2 d3).kin.val = s)) :
    Calls Try.prog 56 #[.agg #[.int .i64 ty, .int .i64 bits, .int .i64 base, .int .i64 size, .int .i64 used, .int .i64 frm, .int .i64 badge, .bool full, .int .u64 (word : Int), .int .u64 (d0 : Int), .int .u64 (d1 : Int), .int .u64 (d2 : Int), .int .u64 (d3 : Int)]] v fun e w' => e = .returned s ∧ w'.cell? ⟨g, 0, none⟩ = some (.int .i64 ty) ∧ w'.cell? ⟨g, 1, none⟩ = some (.int .i64 bits) ∧ w'.cell? ⟨g, 2, none⟩ = some (.int .i64 base) ∧ w'.cell? ⟨g, 3, none⟩ = some (.int .i64 size) ∧ w'.cell? ⟨g, 4, none⟩ = some (.int .i64 used) ∧ w'.cell? ⟨g, 5, none⟩ = some (.int .i64 frm) ∧ w'.cell? ⟨g, 6, none⟩ = some (.int .i64 badge) ∧ w'.cell? ⟨g, 7, none⟩ = some (.bool full) ∧ w'.cell? ⟨g, 8, none⟩ = some (.int .u64 (word : Int)) ∧ w'.cell? ⟨g, 9, none⟩ = some (.int .u64 (d0 : Int)) ∧ w'.cell? ⟨g, 10, none⟩ = some (.int .u64 (d1 : Int)) ∧ w'.cell? ⟨g, 11, none⟩ = some (.int .u64 (d2 : Int)) ∧ w'.cell? ⟨g, 12, none⟩ = some (.int .u64 (d3 : Int)) ∧ Tbx W w' g (Tng.mk ty bits base size used frm badge full word d0 d1 d2 d3) := by
  refine (kind_any (Tng.mk ty bits base size used frm badge full word d0 d1 d2 d3) v).mono ?_
  rintro e w' ⟨rfl, hb⟩
  rw [hk.out]
  exact ⟨rfl, h.ons hb⟩
theorem fits_tb {W v : World} {g : Nat} {ty bits base size used frm badge : Int} {full : Bool} {word d0 d1 d2 d3 : Nat} {f : Bool} (h : Tbx W v g (Tng.mk ty bits base size used frm badge full word d0 d1 d2 d3)) (hf : Hid ((Tng.mk ty bits base size used frm badge full word d0 d1 d2 d3).fitp = f)) :
    Calls Try.prog 57 #[.agg #[.int .i64 ty, .int .i64 bits, .int .i64 base, .int .i64 size, .int .i64 used, .int .i64 frm, .int .i64 badge, .bool full, .int .u64 (word : Int), .int .u64 (d0 : Int), .int .u64 (d1 : Int), .int .u64 (d2 : Int), .int .u64 (d3 : Int)]] v fun e w' => e = .returned (.bool f) ∧ w'.cell? ⟨g, 0, none⟩ = some (.int .i64 ty) ∧ w'.cell? ⟨g, 1, none⟩ = some (.int .i64 bits) ∧ w'.cell? ⟨g, 2, none⟩ = some (.int .i64 base) ∧ w'.cell? ⟨g, 3, none⟩ = some (.int .i64 size) ∧ w'.cell? ⟨g, 4, none⟩ = some (.int .i64 used) ∧ w'.cell? ⟨g, 5, none⟩ = some (.int .i64 frm) ∧ w'.cell? ⟨g, 6, none⟩ = some (.int .i64 badge) ∧ w'.cell? ⟨g, 7, none⟩ = some (.bool full) ∧ w'.cell? ⟨g, 8, none⟩ = some (.int .u64 (word : Int)) ∧ w'.cell? ⟨g, 9, none⟩ = some (.int .u64 (d0 : Int)) ∧ w'.cell? ⟨g, 10, none⟩ = some (.int .u64 (d1 : Int)) ∧ w'.cell? ⟨g, 11, none⟩ = some (.int .u64 (d2 : Int)) ∧ w'.cell? ⟨g, 12, none⟩ = some (.int .u64 (d3 : Int)) ∧ Tbx W w' g (Tng.mk ty bits base size used frm badge full word d0 d1 d2 d3) := by
  refine (tfits_any (Tng.mk ty bits base size used frm badge full word d0 d1 d2 d3) v).mono ?_
  rintro e w' ⟨rfl, hb⟩
  rw [hf.out]
  exact ⟨rfl, h.ons hb⟩
set_option maxHeartbeats 4000000 in
theorem goodt_any (t : Tng) (w : World) : Calls Try.prog 33 #[t.val] w fun e w' => e = .returned (.bool t.good) ∧ Below w.heap.size w w' := by
  have hK := Tbx.new w t 66
  have hq := good_code t
  have he := fun w => teq26 t t.kin w
  obtain ⟨f, hf⟩ : ∃ f, t.fitp = f := ⟨_, rfl⟩
  obtain ⟨s, hs⟩ : ∃ s, t.kin = s := ⟨_, rfl⟩
  rw [hf, hs] at hq
  rw [hs] at he
  generalize t.good = g at hq ⊢
  generalize t.eq s = z at hq he
  obtain ⟨ty, bits, base, size, used, frm, badge, full, word, d0, d1, d2, d3⟩ := t
  obtain ⟨ty', bits', base', size', used', frm', badge', full', word', e0, e1, e2, e3⟩ := s
  have hk : (Tng.mk ty bits base size used frm badge full word d0 d1 d2 d3).kin.val = .agg #[.int .i64 ty', .int .i64 bits', .int .i64 base', .int .i64 size', .int .i64 used', .int .i64 frm', .int .i64 badge', .bool full', .int .u64 (word' : Int), .int .u64 (e0 : Int), .int .u64 (e1 : Int), .int .u64 (e2 : Int), .int .u64 (e3 : Int)] := by rw [hs]; rfl
  have HK := Lib.hid hk
  have HF := Lib.hid hf
  have HQ := Lib.hid hq
  clear hk hf hq hs
  unfold tcells at hK
  unfold Tng.val at he ⊢
  simp only at he hK ⊢
  cases z
  ·
    go_enter Try.func33, Try.ntmps33
    go_wp2_with fail
    generalize w.alloc _ = w1 at hK ⊢
    obtain ⟨c0, c1, c2, c3, c4, c5, c6, c7, c8, c9, c10, c11, c12, hT⟩ := hK.drew.ons (below_self _)
    clear hK
    go_wp2_with fail
    go_region_with (go_at_call 56; ((with_reducible refine (kind_tb (by with_reducible assumption) (by with_reducible assumption)).mono ?_); rintro e w' ⟨rfl, y0, y1, y2, y3, y4, y5, y6, y7, y8, y9, y10, y11, y12, y13⟩))
    all_goals go_wp2
    all_goals go_ret
    all_goals exact ⟨by rw [HQ.out]; rfl, y13.old⟩
  ·
    go_enter Try.func33, Try.ntmps33
    go_wp2_with fail
    generalize w.alloc _ = w1 at hK ⊢
    obtain ⟨c0, c1, c2, c3, c4, c5, c6, c7, c8, c9, c10, c11, c12, hT⟩ := hK.drew.ons (below_self _)
    clear hK
    go_wp2_with fail
    go_region_held3 (fun w' => w'.cell? ⟨w.heap.size, 0, none⟩ = some (.int .i64 ty) ∧ w'.cell? ⟨w.heap.size, 1, none⟩ = some (.int .i64 bits) ∧ w'.cell? ⟨w.heap.size, 2, none⟩ = some (.int .i64 base) ∧ w'.cell? ⟨w.heap.size, 3, none⟩ = some (.int .i64 size) ∧ w'.cell? ⟨w.heap.size, 4, none⟩ = some (.int .i64 used) ∧ w'.cell? ⟨w.heap.size, 5, none⟩ = some (.int .i64 frm) ∧ w'.cell? ⟨w.heap.size, 6, none⟩ = some (.int .i64 badge) ∧ w'.cell? ⟨w.heap.size, 7, none⟩ = some (.bool full) ∧ w'.cell? ⟨w.heap.size, 8, none⟩ = some (.int .u64 (word : Int)) ∧ w'.cell? ⟨w.heap.size, 9, none⟩ = some (.int .u64 (d0 : Int)) ∧ w'.cell? ⟨w.heap.size, 10, none⟩ = some (.int .u64 (d1 : Int)) ∧ w'.cell? ⟨w.heap.size, 11, none⟩ = some (.int .u64 (d2 : Int)) ∧ w'.cell? ⟨w.heap.size, 12, none⟩ = some (.int .u64 (d3 : Int)) ∧ Tbx w w' w.heap.size (Tng.mk ty bits base size used frm badge full word d0 d1 d2 d3))
      (exact ⟨by with_reducible assumption, by with_reducible assumption, by with_reducible assumption, by with_reducible assumption, by with_reducible assumption, by with_reducible assumption, by with_reducible assumption, by with_reducible assumption, by with_reducible assumption, by with_reducible assumption, by with_reducible assumption, by with_reducible assumption, by with_reducible assumption, by with_reducible assumption⟩)
      (first | (go_at_call 56; ((with_reducible refine (kind_tb (by with_reducible assumption) (by with_reducible assumption)).mono ?_); rintro e w' ⟨rfl, y0, y1, y2, y3, y4, y5, y6, y7, y8, y9, y10, y11, y12, y13⟩)) | (go_at_call 57; ((with_reducible refine (fits_tb (by with_reducible assumption) (by with_reducible assumption)).mono ?_); rintro e w' ⟨rfl, y0, y1, y2, y3, y4, y5, y6, y7, y8, y9, y10, y11, y12, y13⟩)))
    all_goals go_wp2
    all_goals go_ret
    all_goals exact ⟨by rw [HQ.out]; rfl, y13.old⟩
end Go.Proofs.Ytkpbfbmkolgmgaa
namespace Go.Proofs.Ytkpbfbmkolgmgaa
open Go.RowKit

def RDepRel (W : World) (l : List Int) (d : Nat) (k : Nat) (p q : Value) (wr : World) : Prop :=
  ∃ (c : Nat) (z : Int), k + c = d ∧ p = .int .i64 c ∧ q = .int .i64 z ∧ (ups l z).length = k ∧ z < l.length ∧ Below W.heap.size W wr
/-- those of the first i places that are picked -/
def pick (p : Nat → Bool) (i : Nat) : List Nat := (List.range i).filter p
theorem pick_zero (p : Nat → Bool) : pick p 0 = [] := rfl
theorem pick_yes {p : Nat → Bool} {i : Nat} (h : p i = true) : pick p (i + 1) = pick p i ++ [i] := by
  rw [pick, List.range_succ, List.filter_append, pick, List.filter_cons_of_pos h]
  rfl
theorem pick_no {p : Nat → Bool} {i : Nat} (h : p i = false) : pick p (i + 1) = pick p i := by
  rw [pick, List.range_succ, List.filter_append, pick, List.filter_cons_of_neg (by rw [h]; decide)]
  simp
theorem pick_len (p : Nat → Bool) (i : Nat) : (pick p i).length ≤ i := by
  have := List.length_filter_le p (List.range i)
  rwa [List.length_range] at this
theorem toInts_append (a b : List Nat) : toInts (a ++ b) = toInts a ++ toInts b := List.map_append
theorem toInts_length (a : List Nat) : (toInts a).length = a.length := List.length_map _

def RPickRel (W : World) (n : Nat) (p : Nat → Bool) (k : Nat) (v q : Value) (wr : World) : Prop :=
  ∃ i : Nat, k + i = n ∧ Bi W wr v (toInts (pick p i)) ∧ q = .int .i64 i

end Go.Proofs.Ytkpbfbmkolgmgaa
namespace Go.Proofs.Ytkpbfbmkolgmgaa
open Go.RowKit

/-- a call that hands back a list -/
def ListF (w w' : World) (e : Ending) (L : List Int) : Prop := ∃ B cb, e = .returned (.slice B L.length cb) ∧ L.length ≤ cb ∧ IntsAt w' w'.heap.size B L ∧ Below w.heap.size w w'
/-- a call that hands back a forest, and whether it is one -/
def GivesF (w w' : World) (e : Ending) (r : Option (List Int)) : Prop := ∃ B cb, e = .returned (.tuple #[.agg #[.slice B (r.getD []).length cb], .bool r.isSome]) ∧ (r.getD []).length ≤ cb ∧ IntsAt w' w'.heap.size B (r.getD []) ∧ Below w.heap.size w w'
end Go.Proofs.Ytkpbfbmkolgmgaa
namespace Go.Proofs.Ytkpbfbmkolgmgaa

/-- what is reached from a place along pairs -/
inductive Rch (E : List (Nat × Nat)) (a : Nat) : Nat → Prop where
  | self : Rch E a a
  | step {x y : Nat} : Rch E a x → (x, y) ∈ E → Rch E a y
/-- one pair after the other: what has its first has its second -/
def kcome (s : Nat → Bool) (e : Nat × Nat) : Nat → Bool := if s e.1 = true then fun k => k == e.2 || s k else s
def kround (E : List (Nat × Nat)) (s : Nat → Bool) : Nat → Bool := E.foldl kcome s
def krounds (E : List (Nat × Nat)) : Nat → (Nat → Bool) → Nat → Bool
  | 0, s => s
  | m + 1, s => krounds E m (kround E s)
def kstart (a : Nat) : Nat → Bool := fun k => k == a
theorem krounds_succ (E : List (Nat × Nat)) : ∀ (m : Nat) (s : Nat → Bool), krounds E (m + 1) s = kround E (krounds E m s)
  | 0, _ => rfl
  | m + 1, s => by rw [krounds, krounds_succ E m, krounds]
theorem kcome_le {s : Nat → Bool} {e : Nat × Nat} {k : Nat} (h : s k = true) : kcome s e k = true := by
  unfold kcome
  split
  · simp [h]
  · exact h
theorem kcome_mono {s t : Nat → Bool} (hst : ∀ k, s k = true → t k = true) {e : Nat × Nat} {k : Nat} (h : kcome s e k = true) : kcome t e k = true := by
  unfold kcome at h
  split at h
  · rename_i h1
    unfold kcome
    rw [if_pos (hst _ h1)]
    rw [Bool.or_eq_true] at h ⊢
    exact h.imp id (hst k)
  · exact kcome_le (hst k h)
theorem kround_le : ∀ (E : List (Nat × Nat)) {s : Nat → Bool} {k : Nat}, s k = true → kround E s k = true
  | [], _, _, h => h
  | _ :: E, _, _, h => kround_le E (kcome_le h)
theorem kround_mono : ∀ (E : List (Nat × Nat)) {s t : Nat → Bool}, (∀ k, s k = true → t k = true) → ∀ {k : Nat}, kround E s k = true → kround E t k = true
  | [], _, _, hst, k, h => hst k h
  | e :: E, s, t, hst, _, h => kround_mono E (s := kcome s e) (t := kcome t e) (fun _ q => kcome_mono hst q) h
theorem kround_has : ∀ (E : List (Nat × Nat)) {s : Nat → Bool} {e : Nat × Nat}, e ∈ E → s e.1 = true → kround E s e.2 = true
  | f :: E, s, e, he, h => by
    rcases List.mem_cons.1 he with rfl | he
    · exact kround_le E (by unfold kcome; rw [if_pos h]; simp)
    · exact kround_has E he (kcome_le h)
theorem kround_reach (a : Nat) (E0 : List (Nat × Nat)) : ∀ (E : List (Nat × Nat)), (∀ e ∈ E, e ∈ E0) → ∀ {s : Nat → Bool}, (∀ k, s k = true → Rch E0 a k) → ∀ k, kround E s k = true → Rch E0 a k
  | [], _, _, h, k, q => h k q
  | e :: E, hE, s, h, k, q => by
    refine kround_reach a E0 E (fun x hx => hE x (List.mem_cons_of_mem _ hx)) (s := kcome s e) (fun j hj => ?_) k q
    unfold kcome at hj
    split at hj
    · rename_i h1
      rcases Bool.or_eq_true _ _ ▸ hj with h2 | h2
      · rw [beq_iff_eq.1 h2]
        exact .step (h _ h1) (hE e (List.mem_cons_self ..))
      · exact h j h2
    · exact h j hj
def Kshut (E : List (Nat × Nat)) (s : Nat → Bool) : Prop := ∀ e ∈ E, s e.1 = true → s e.2 = true
theorem kround_shut : ∀ {E : List (Nat × Nat)} {s : Nat → Bool}, Kshut E s → kround E s = s
  | [], _, _ => rfl
  | e :: E, s, h => by
    have hc : kcome s e = s := by
      unfold kcome
      split
      · rename_i h1
        have h2 := h e (List.mem_cons_self ..) h1
        funext k
        rcases Decidable.em (k = e.2) with rfl | hk
        · simp [h2]
        · simp [hk]
      · rfl
    show kround E (kcome s e) = s
    rw [hc]
    exact kround_shut fun x hx => h x (List.mem_cons_of_mem _ hx)
def kmany (n : Nat) (s : Nat → Bool) : Nat := ((List.range n).filter s).length
theorem kmany_le (n : Nat) (s : Nat → Bool) : kmany n s ≤ n := by
  have := List.length_filter_le s (List.range n)
  rwa [List.length_range] at this
theorem kfilter_lt {l : List Nat} {s t : Nat → Bool} (h : ∀ k, s k = true → t k = true) : (l.filter s).length ≤ (l.filter t).length := by
  induction l with
  | nil => exact Nat.le_refl _
  | cons x l ih =>
    cases hs : s x with
    | true => rw [List.filter_cons_of_pos hs, List.filter_cons_of_pos (h x hs), List.length_cons, List.length_cons]; omega
    | false =>
      rw [List.filter_cons_of_neg (by rw [hs]; decide)]
      cases ht : t x with
      | true => rw [List.filter_cons_of_pos ht, List.length_cons]; omega
      | false => rw [List.filter_cons_of_neg (by rw [ht]; decide)]; exact ih
theorem kfilter_more {l : List Nat} {s t : Nat → Bool} (h : ∀ k, s k = true → t k = true) {y : Nat} (hy : y ∈ l) (hs : s y = false) (ht : t y = true) : (l.filter s).length < (l.filter t).length := by
  induction l with
  | nil => cases hy
  | cons x l ih =>
    rcases List.mem_cons.1 hy with rfl | hy
    · rw [List.filter_cons_of_neg (by rw [hs]; decide), List.filter_cons_of_pos ht, List.length_cons]
      have := kfilter_lt (l := l) h
      omega
    · have := ih hy
      cases hsx : s x with
      | true => rw [List.filter_cons_of_pos hsx, List.filter_cons_of_pos (h x hsx), List.length_cons, List.length_cons]; omega
      | false =>
        rw [List.filter_cons_of_neg (by rw [hsx]; decide)]
        cases htx : t x with
        | true => rw [List.filter_cons_of_pos htx, List.length_cons]; omega
        | false => rw [List.filter_cons_of_neg (by rw [htx]; decide)]; exact this
theorem kshut_or {E : List (Nat × Nat)} {n a : Nat} (hE : ∀ e ∈ E, e.2 < n) (ha : a < n) : ∀ m, Kshut E (krounds E m (kstart a)) ∨ m + 1 ≤ kmany n (krounds E m (kstart a))
  | 0 => by
    refine .inr ?_
    have hm : a ∈ (List.range n).filter (kstart a) := List.mem_filter.2 ⟨List.mem_range.2 ha, by simp [kstart]⟩
    have := List.length_pos_of_mem hm
    exact this
  | m + 1 => by
    rw [krounds_succ]
    rcases kshut_or hE ha m with h | h
    · exact .inl (by rw [kround_shut h]; exact h)
    · by_cases hs : Kshut E (krounds E m (kstart a))
      · exact .inl (by rw [kround_shut hs]; exact hs)
      · refine .inr ?_
        obtain ⟨e, he, h1, h2⟩ : ∃ e ∈ E, krounds E m (kstart a) e.1 = true ∧ krounds E m (kstart a) e.2 = false := by
          refine Classical.byContradiction fun q => hs fun e he h1 => ?_
          rcases h2 : krounds E m (kstart a) e.2 with _ | _
          · exact absurd ⟨e, he, h1, h2⟩ q
          · rfl
        have := kfilter_more (l := List.range n) (s := krounds E m (kstart a)) (t := kround E (krounds E m (kstart a))) (fun k => kround_le E) (List.mem_range.2 (hE e he)) h2 (kround_has E he h1)
        unfold kmany at h ⊢
        omega
/-- after as many rounds as there are places: just what is reached -/
theorem krounds_reach {E : List (Nat × Nat)} {n a : Nat} (hE : ∀ e ∈ E, e.2 < n) (ha : a < n) (k : Nat) : krounds E n (kstart a) k = true ↔ Rch E a k := by
  constructor
  · have key : ∀ m k, krounds E m (kstart a) k = true → Rch E a k := by
      intro m
      induction m with
      | zero =>
        intro k h
        rw [beq_iff_eq.1 (show (k == a) = true from h)]
        exact .self
      | succ m ih =>
        intro k h
        rw [krounds_succ] at h
        exact kround_reach a E E (fun _ h => h) ih k h
    exact key n k
  · intro h
    have hs : Kshut E (krounds E n (kstart a)) := by
      rcases kshut_or hE ha n with h | h
      · exact h
      · have := kmany_le n (krounds E n (kstart a))
        omega
    have h0 : ∀ m, krounds E m (kstart a) a = true := by
      intro m
      induction m with
      | zero => simp [krounds, kstart]
      | succ m ih => rw [krounds_succ]; exact kround_le E ih
    induction h with
    | self => exact h0 n
    | step _ he ih => exact hs _ he ih
end Go.Proofs.Ytkpbfbmkolgmgaa
namespace Go.Proofs.Ytkpbfbmkolgmgaa

/-! ### of each kind so many: all together -/
def ksum (f : Nat → Nat) : Nat → Nat
  | 0 => 0
  | k + 1 => ksum f k + f k
theorem ksum_add (f g : Nat → Nat) : ∀ k, ksum (fun t => f t + g t) k = ksum f k + ksum g k
  | 0 => rfl
  | k + 1 => by rw [ksum, ksum_add f g k, ksum, ksum]; omega
theorem ksum_zero : ∀ k, ksum (fun _ => 0) k = 0
  | 0 => rfl
  | k + 1 => by rw [ksum, ksum_zero k]
theorem ksum_one (x : Nat) : ∀ k, ksum (fun t => if x = t then 1 else 0) k = if x < k then 1 else 0
  | 0 => rfl
  | k + 1 => by
    rw [ksum, ksum_one x k]
    by_cases h1 : x < k
    · rw [if_pos h1, if_neg (by omega), if_pos (by omega)]
    · rw [if_neg h1]
      by_cases h2 : x = k
      · rw [if_pos h2, if_pos (by omega)]
      · rw [if_neg h2, if_neg (by omega)]
theorem count_kinds (f : Nat → Nat) (k : Nat) : ∀ (l : List Nat), (∀ i ∈ l, f i < k) → ksum (fun t => (l.filter fun i => decide (f i = t)).length) k = l.length
  | [], _ => by simpa using ksum_zero k
  | x :: l, h => by
    have ih := count_kinds f k l fun i hi => h i (List.mem_cons_of_mem _ hi)
    have e : (fun t => ((x :: l).filter fun i => decide (f i = t)).length) = fun t => (l.filter fun i => decide (f i = t)).length + (if f x = t then 1 else 0) := by
      funext t
      by_cases ht : f x = t
      · rw [List.filter_cons_of_pos (by simpa using ht), List.length_cons, if_pos ht]
      · rw [List.filter_cons_of_neg (by simpa using ht), if_neg ht]; rfl
    rw [e, ksum_add, ih, ksum_one, if_pos (h x (List.mem_cons_self ..)), List.length_cons]

/-! ### the first free run -/
def gapAt (own : Nat → Bool) (n base : Nat) : Bool := (List.range n).all fun j => !own (base + j)
/-- the least base from which n of m places are free -/
def gapF (own : Nat → Bool) (m n : Nat) : Option Nat := (List.range (m + 1 - n)).find? (gapAt own n)
/-- how many places just below i are free -/
def runOf (own : Nat → Bool) : Nat → Nat
  | 0 => 0
  | i + 1 => if own i = true then 0 else runOf own i + 1
theorem gapAt_iff {own : Nat → Bool} {n b : Nat} : gapAt own n b = true ↔ ∀ j, b ≤ j → j < b + n → own j = false := by
  simp only [gapAt, List.all_eq_true, List.mem_range, Bool.not_eq_true']
  constructor
  · intro h j h1 h2
    have := h (j - b) (by omega)
    rwa [show b + (j - b) = j by omega] at this
  · exact fun h j hj => h (b + j) (by omega) (by omega)
theorem runOf_le (own : Nat → Bool) : ∀ i, runOf own i ≤ i
  | 0 => Nat.le_refl _
  | i + 1 => by
    rw [runOf]
    split
    · omega
    · have := runOf_le own i
      omega
theorem runOf_free (own : Nat → Bool) : ∀ i j, i - runOf own i ≤ j → j < i → own j = false
  | 0, j, _, h => by omega
  | i + 1, j, h1, h2 => by
    rw [runOf] at h1
    split at h1
    · omega
    · rename_i h
      rcases Nat.lt_or_ge j i with hj | hj
      · exact runOf_free own i j (by omega) hj
      · obtain rfl : j = i := by omega
        exact Bool.eq_false_iff.2 h
theorem runOf_ge {own : Nat → Bool} {b : Nat} : ∀ n, gapAt own n b = true → n ≤ runOf own (b + n)
  | 0, _ => Nat.zero_le _
  | n + 1, h => by
    have h1 := gapAt_iff.1 h
    have ih := runOf_ge n (gapAt_iff.2 fun j x y => h1 j x (by omega))
    rw [← Nat.add_assoc, runOf, if_neg (by rw [h1 (b + n) (by omega) (by omega)]; decide)]
    omega
theorem find_least {p : Nat → Bool} : ∀ {k b : Nat}, b < k → p b = true → (∀ c, c < b → p c = false) → (List.range k).find? p = some b := by
  intro k b hb hp hn
  rw [List.find?_eq_some_iff_append]
  refine ⟨hp, List.range b, (List.range' (b + 1) (k - (b + 1))), ?_, fun c hc => by rw [hn c (List.mem_range.1 hc)]; rfl⟩
  rw [List.range_eq_range', List.range_eq_range', show k = b + (1 + (k - (b + 1))) by omega, ← List.range'_append_1, ← List.range'_append_1]
  simp
  omega
theorem gap_of_run {own : Nat → Bool} {m n i : Nat} (h0 : ∀ j, j ≤ i → runOf own j < n) (h1 : runOf own (i + 1) = n) (hm : i + 1 ≤ m) : gapF own m n = some (i + 1 - n) := by
  have hle := runOf_le own (i + 1)
  rw [h1] at hle
  refine find_least (by omega) (gapAt_iff.2 fun j x y => runOf_free own (i + 1) j (by omega) (by omega)) fun c hc => ?_
  refine Bool.eq_false_iff.2 fun hg => ?_
  have := runOf_ge n hg
  have := h0 (c + n) (by omega)
  omega
theorem gap_none {own : Nat → Bool} {m n : Nat} (h0 : ∀ j, j ≤ m → runOf own j < n) : gapF own m n = none := by
  rw [gapF, List.find?_eq_none]
  intro b hb hg
  rw [List.mem_range] at hb
  have := runOf_ge n hg
  have := h0 (b + n) (by omega)
  omega
end Go.Proofs.Ytkpbfbmkolgmgaa
namespace Go.Proofs.Ytkpbfbmkolgmgaa

/-- what is in a slot, and what it came of -/
structure Sl where
  c : Cp
  up : Int
def Sl.zero : Sl := ⟨.none, 0⟩
/-- a state: how much there is, its slots, its things -/
structure St where
  g : Gd
  sl : List Sl
  th : List Tng
def slAt (l : List Sl) (i : Nat) : Sl := l.getD i .zero
def thAt (l : List Tng) (i : Nat) : Tng := l.getD i .zero
theorem slAt_get {l : List Sl} {i : Nat} (h : i < l.length) : l[i]? = some (slAt l i) := by rw [slAt, List.getD_eq_getElem?_getD, List.getElem?_eq_getElem h]; rfl
theorem thAt_get {l : List Tng} {i : Nat} (h : i < l.length) : l[i]? = some (thAt l i) := by rw [thAt, List.getD_eq_getElem?_getD, List.getElem?_eq_getElem h]; rfl
theorem slAt_at {l : List Sl} {i : Nat} {x : Sl} (h : l[i]? = some x) : slAt l i = x := by rw [slAt, List.getD_eq_getElem?_getD, h]; rfl
theorem thAt_at {l : List Tng} {i : Nat} {x : Tng} (h : l[i]? = some x) : thAt l i = x := by rw [thAt, List.getD_eq_getElem?_getD, h]; rfl
theorem thAt_out {l : List Tng} {i : Nat} (h : l.length ≤ i) : thAt l i = .zero := by rw [thAt, List.getD_eq_getElem?_getD, List.getElem?_eq_none h]; rfl
theorem slAt_out {l : List Sl} {i : Nat} (h : l.length ≤ i) : slAt l i = .zero := by rw [slAt, List.getD_eq_getElem?_getD, List.getElem?_eq_none h]; rfl
theorem slAt_range {n : Nat} (f : Nat → Sl) {i : Nat} (h : i < n) : slAt ((List.range n).map f) i = f i := slAt_at (by simp [h])
theorem thAt_range {n : Nat} (f : Nat → Tng) {i : Nat} (h : i < n) : thAt ((List.range n).map f) i = f i := thAt_at (by simp [h])

/-! ### one's own, alike -/
def Gd.eq (a b : Gd) : Bool := a.t == b.t && (a.s == b.s && a.k == b.k)
theorem Gd.eq_iff {a b : Gd} : a.eq b = true ↔ a = b := by
  obtain ⟨⟩ := a
  obtain ⟨⟩ := b
  simp only [Gd.eq, Bool.and_eq_true, beq_iff_eq, Gd.mk.injEq]
theorem Cp.eq_iff {a b : Cp} : a.eq b = true ↔ a = b := by
  obtain ⟨⟩ := a
  obtain ⟨⟩ := b
  simp only [Cp.eq, Bool.and_eq_true, beq_iff_eq, Cp.mk.injEq]
def Sl.eq (a b : Sl) : Bool := a.c.eq b.c && a.up == b.up
theorem Sl.eq_iff {a b : Sl} : a.eq b = true ↔ a = b := by
  obtain ⟨⟩ := a
  obtain ⟨⟩ := b
  simp only [Sl.eq, Bool.and_eq_true, beq_iff_eq, Cp.eq_iff, Sl.mk.injEq]
def alls {α : Type} (e : α → α → Bool) : List α → List α → Bool
  | [], [] => true
  | a :: l, b :: m => e a b && alls e l m
  | _, _ => false
theorem alls_iff {α : Type} {e : α → α → Bool} (he : ∀ {a b}, e a b = true ↔ a = b) : ∀ {l m : List α}, alls e l m = true ↔ l = m
  | [], [] => by simp [alls]
  | [], b :: m => by simp [alls]
  | a :: l, [] => by simp [alls]
  | a :: l, b :: m => by rw [alls, Bool.and_eq_true, he, alls_iff he, List.cons.injEq]
def St.same (a b : St) : Bool := a.g.eq b.g && (alls Sl.eq a.sl b.sl && alls Tng.eq a.th b.th)
theorem St.same_iff {a b : St} : a.same b = true ↔ a = b := by
  obtain ⟨⟩ := a
  obtain ⟨⟩ := b
  simp only [St.same, Bool.and_eq_true, Gd.eq_iff, alls_iff Sl.eq_iff, alls_iff Tng.eq_iff, St.mk.injEq]

/-! ### who has a slot, who holds a thing -/
def upOf (x : Sl) : Int := if x.c.non = true then -2 else x.up
def upsOf (l : List Sl) : List Int := l.map upOf
theorem upsOf_length (l : List Sl) : (upsOf l).length = l.length := List.length_map ..
theorem fu_ups {l : List Sl} {i : Nat} (h : i < l.length) : fu (upsOf l) i = upOf (slAt l i) := fu_at (by rw [upsOf, List.getElem?_map, slAt_get h]; rfl)
def Tng.hasS (t : Tng) (k : Int) : Bool := t.ty == 2 && (decide (t.base ≤ k) && decide (k < t.base + tw2 t.bits))
theorem Tng.hasS_iff {t : Tng} {k : Int} : t.hasS k = true ↔ t.ty = 2 ∧ t.base ≤ k ∧ k < t.base + tw2 t.bits := by simp [Tng.hasS]
def ownerN (th : List Tng) (k : Int) : Option Nat := th.findIdx? fun t => t.hasS k
def optI : Option Nat → Int
  | some i => i
  | none => -1
theorem ownerN_some {th : List Tng} {k : Int} {i : Nat} : ownerN th k = some i ↔ i < th.length ∧ (thAt th i).hasS k = true ∧ ∀ j, j < i → (thAt th j).hasS k = false := by
  rw [ownerN, List.findIdx?_eq_some_iff_getElem]
  constructor
  · rintro ⟨h, h1, h2⟩
    refine ⟨h, by rwa [thAt_at (List.getElem?_eq_getElem h)], fun j hj => ?_⟩
    have := h2 j hj
    rw [thAt_at (List.getElem?_eq_getElem (Nat.lt_trans hj h))]
    simpa using this
  · rintro ⟨h, h1, h2⟩
    refine ⟨h, by rwa [thAt_at (List.getElem?_eq_getElem h)] at h1, fun j hj => ?_⟩
    have := h2 j hj
    rw [thAt_at (List.getElem?_eq_getElem (Nat.lt_trans hj h))] at this
    simpa using this
theorem ownerN_none {th : List Tng} {k : Int} : ownerN th k = none ↔ ∀ j, j < th.length → (thAt th j).hasS k = false := by
  rw [ownerN, List.findIdx?_eq_none_iff]
  constructor
  · exact fun h j hj => h _ (List.mem_of_getElem? (thAt_get hj))
  · intro h x hx
    obtain ⟨j, hj, rfl⟩ := List.getElem_of_mem hx
    have := h j hj
    rwa [thAt_at (List.getElem?_eq_getElem hj)] at this
theorem ownerN_lt {th : List Tng} {k : Int} {i : Nat} (h : ownerN th k = some i) : i < th.length := (ownerN_some.1 h).1
def holds (t : Int) (x : Sl) : Bool := !decide (x.c.ty = 0) && decide (x.c.th = t)
def holdN (sl : List Sl) (t : Int) : List Nat := (List.range sl.length).filter fun i => holds t (slAt sl i)
theorem mem_holdN {sl : List Sl} {t : Int} {i : Nat} : i ∈ holdN sl t ↔ i < sl.length ∧ (slAt sl i).c.ty ≠ 0 ∧ (slAt sl i).c.th = t := by
  simp [holdN, holds]
def freeN (th : List Tng) : Option Nat := th.findIdx? fun t => decide (t.ty = 0)
theorem freeN_some {th : List Tng} {i : Nat} : freeN th = some i ↔ i < th.length ∧ (thAt th i).ty = 0 ∧ ∀ j, j < i → (thAt th j).ty ≠ 0 := by
  rw [freeN, List.findIdx?_eq_some_iff_getElem]
  constructor
  · rintro ⟨h, h1, h2⟩
    refine ⟨h, by rw [thAt_at (List.getElem?_eq_getElem h)]; simpa using h1, fun j hj => ?_⟩
    have := h2 j hj
    rw [thAt_at (List.getElem?_eq_getElem (Nat.lt_trans hj h))]
    simpa using this
  · rintro ⟨h, h1, h2⟩
    rw [thAt_at (List.getElem?_eq_getElem h)] at h1
    refine ⟨h, by simpa using h1, fun j hj => ?_⟩
    have := h2 j hj
    rw [thAt_at (List.getElem?_eq_getElem (Nat.lt_trans hj h))] at this
    simpa using this
theorem freeN_none {th : List Tng} : freeN th = none ↔ ∀ j, j < th.length → (thAt th j).ty ≠ 0 := by
  rw [freeN, List.findIdx?_eq_none_iff]
  constructor
  · exact fun h j hj => by simpa using h _ (List.mem_of_getElem? (thAt_get hj))
  · intro h x hx
    obtain ⟨j, hj, rfl⟩ := List.getElem_of_mem hx
    have := h j hj
    rw [thAt_at (List.getElem?_eq_getElem hj)] at this
    simpa using this
def ownd (th : List Tng) (k : Nat) : Bool := (ownerN th k).isSome
def gapN (s : St) (bits : Int) : Option Nat := if inr3 bits 1 4 = true then gapF (ownd s.th) s.sl.length (tw2 bits).toNat else none

/-! ### Nodes in Nodes -/
def edgeOf (th : List Tng) (sl : List Sl) (i : Nat) : Option (Nat × Nat) := if (slAt sl i).c.ty = 2 then (ownerN th i).map fun o => (o, (slAt sl i).c.th.toNat) else none
def edgesN (th : List Tng) (sl : List Sl) : List (Nat × Nat) := (List.range sl.length).filterMap (edgeOf th sl)
theorem mem_edges {th : List Tng} {sl : List Sl} {e : Nat × Nat} : e ∈ edgesN th sl ↔ ∃ i, i < sl.length ∧ (slAt sl i).c.ty = 2 ∧ ownerN th i = some e.1 ∧ (slAt sl i).c.th.toNat = e.2 := by
  simp only [edgesN, List.mem_filterMap, List.mem_range, edgeOf]
  constructor
  · rintro ⟨i, h, h1⟩
    split at h1
    · rename_i h2
      rw [Option.map_eq_some_iff] at h1
      obtain ⟨o, h3, h4⟩ := h1
      exact ⟨i, h, h2, by rw [h3, ← h4], by rw [← h4]⟩
    · cases h1
  · rintro ⟨i, h, h1, h2, h3⟩
    refine ⟨i, h, ?_⟩
    rw [if_pos h1, h2, Option.map_some, h3]
def underN (s : St) (a : Nat) : Nat → Bool := krounds (edgesN s.th s.sl) s.th.length (kstart a)
def ringN (s : St) (a : Nat) : Bool := (edgesN s.th s.sl).any fun e => e.1 == a && underN s e.2 a

/-! ### which may be -/
def Tng.meets (t u : Tng) : Bool := t.ty == 2 && (u.ty == 2 && (decide (t.base < u.base + tw2 u.bits) && decide (u.base < t.base + tw2 t.bits)))
def rootT (t : Int) : Tng := ⟨2, 3, 8 * t, 0, 0, 0, 0, false, 0, 0, 0, 0, 0⟩
def St.k1 (s : St) : Bool := s.g.ok && (decide ((s.sl.length : Int) = s.g.s) && decide ((s.th.length : Int) = s.g.k))
def St.fits2 (s : St) (t : Tng) : Bool := !(t.ty == 2 && decide (s.g.s < t.base + tw2 t.bits))
def St.from2 (s : St) (t : Tng) : Bool := !(decide (0 < t.frm) && (decide (s.g.s < t.frm) || (slAt s.sl (t.frm - 1).toNat).c.non))
def St.k2 (s : St) (i : Nat) : Bool := (thAt s.th i).good && (s.fits2 (thAt s.th i) && (((List.range i).all fun k => !(thAt s.th i).meets (thAt s.th k)) && s.from2 (thAt s.th i)))
def St.k3 (s : St) (t : Nat) : Bool := (thAt s.th (2 + t)).eq (rootT t)
def St.thing4 (s : St) (c : Cp) : Bool := decide (c.th < s.th.length) && (thAt s.th c.th.toNat).ty == c.ty
def St.k4 (s : St) (i : Nat) : Bool := (slAt s.sl i).c.good && (if (slAt s.sl i).c.ty = 0 then (slAt s.sl i).up == -1 else s.thing4 (slAt s.sl i).c && (ownerN s.th i).isSome)
def St.k5 (s : St) : Bool := fgood (upsOf s.sl)
def cameOk (c p : Cp) : Bool := c.less p || (p.ty == 1 && !(p.th == c.th))
def St.k6 (s : St) (i : Nat) : Bool := decide ((slAt s.sl i).c.ty = 0) || (decide (-1 ≤ (slAt s.sl i).up) && (decide ((slAt s.sl i).up < 0) || cameOk (slAt s.sl i).c (slAt s.sl (slAt s.sl i).up.toNat).c))
def St.root (s : St) (i : Nat) : Bool := decide (2 ≤ i) && decide ((i : Int) < 2 + s.g.t)
def St.k7 (s : St) (i : Nat) : Bool := !(!decide ((thAt s.th i).ty = 0) && (!s.root i && (holdN s.sl i).isEmpty)) && !(decide ((thAt s.th i).ty = 2) && ringN s i)
def sgood (s : St) : Bool := s.k1 && ((List.range s.th.length).all s.k2 && ((List.range s.g.t.toNat).all s.k3 && ((List.range s.sl.length).all s.k4 && (s.k5 && ((List.range s.sl.length).all s.k6 && (List.range s.th.length).all s.k7)))))
/-- the same, to work with -/
structure Gst (s : St) : Prop where
  k1 : s.k1 = true
  k2 : ∀ i, i < s.th.length → s.k2 i = true
  k3 : ∀ t : Nat, (t : Int) < s.g.t → s.k3 t = true
  k4 : ∀ i, i < s.sl.length → s.k4 i = true
  k5 : s.k5 = true
  k6 : ∀ i, i < s.sl.length → s.k6 i = true
  k7 : ∀ i, i < s.th.length → s.k7 i = true
theorem sgood_iff {s : St} : sgood s = true ↔ Gst s := by
  simp only [sgood, Bool.and_eq_true, List.all_eq_true, List.mem_range]
  constructor
  · rintro ⟨h1, h2, h3, h4, h5, h6, h7⟩
    exact ⟨h1, h2, fun t h => h3 t (by omega), h4, h5, h6, h7⟩
  · rintro ⟨h1, h2, h3, h4, h5, h6, h7⟩
    exact ⟨h1, h2, fun t h => h3 t (by omega), h4, h5, h6, h7⟩
theorem sbad1 {s : St} (h : s.k1 = false) : sgood s = false := Bool.eq_false_iff.2 fun e => by rw [(sgood_iff.1 e).k1] at h; cases h
theorem sbad2 {s : St} {i : Nat} (hi : i < s.th.length) (h : s.k2 i = false) : sgood s = false := Bool.eq_false_iff.2 fun e => by rw [(sgood_iff.1 e).k2 i hi] at h; cases h
theorem sbad3 {s : St} {t : Nat} (hi : (t : Int) < s.g.t) (h : s.k3 t = false) : sgood s = false := Bool.eq_false_iff.2 fun e => by rw [(sgood_iff.1 e).k3 t hi] at h; cases h
theorem sbad4 {s : St} {i : Nat} (hi : i < s.sl.length) (h : s.k4 i = false) : sgood s = false := Bool.eq_false_iff.2 fun e => by rw [(sgood_iff.1 e).k4 i hi] at h; cases h
theorem sbad5 {s : St} (h : s.k5 = false) : sgood s = false := Bool.eq_false_iff.2 fun e => by rw [(sgood_iff.1 e).k5] at h; cases h
theorem sbad6 {s : St} {i : Nat} (hi : i < s.sl.length) (h : s.k6 i = false) : sgood s = false := Bool.eq_false_iff.2 fun e => by rw [(sgood_iff.1 e).k6 i hi] at h; cases h
theorem sbad7 {s : St} {i : Nat} (hi : i < s.th.length) (h : s.k7 i = false) : sgood s = false := Bool.eq_false_iff.2 fun e => by rw [(sgood_iff.1 e).k7 i hi] at h; cases h

/-! ### what is told of one -/
def sowner (s : St) (k : Int) : Option Nat := if sgood s = true then ownerN s.th k else none
def sfree (s : St) : Option Nat := if sgood s = true then freeN s.th else none
def sgap (s : St) (bits : Int) : Option Nat := if sgood s = true then gapN s bits else none
def shold (s : St) (t : Int) : List Nat := if sgood s = true then holdN s.sl t else []
def insideN (s : St) (node slot : Int) : Bool := decide (0 ≤ node) && (decide (node < s.th.length) && (decide ((thAt s.th node.toNat).ty = 2) && match ownerN s.th slot with | some o => underN s node.toNat o | none => false))
def sinside (s : St) (node slot : Int) : Bool := sgood s && insideN s node slot

/-! ### the first one -/
def newT (t room : Int) (i : Nat) : Tng := if i = 0 then ⟨1, 0, 0, room, 0, 0, 0, false, 0, 0, 0, 0, 0⟩ else if i = 1 then Tng.of 3 else if (i : Int) < 2 + t then rootT ((i : Int) - 2) else .zero
def newS (t : Int) (i : Nat) : Sl := if i = 0 then ⟨⟨1, 0, 7, 0⟩, -1⟩ else if i % 8 = 1 ∧ ((i / 8 : Nat) : Int) < t then ⟨⟨3, 1, 7, 0⟩, if i = 1 then -1 else 1⟩ else ⟨.none, -1⟩
def snewS (g : Gd) (room : Int) : St := ⟨g, (List.range g.s.toNat).map (newS g.t), (List.range g.k.toNat).map (newT g.t room)⟩
def snew (g : Gd) (room : Int) : Option St := if g.ok = true ∧ inr3 room 1 4096 = true then some (snewS g room) else none
end Go.Proofs.Ytkpbfbmkolgmgaa
namespace Go.Proofs.Ytkpbfbmkolgmgaa

theorem newT_good {t room : Int} {i : Nat} (ht : t ≤ 4) (h1 : 1 ≤ room) (h2 : room ≤ 4096) : Gth (newT t room i) := by
  unfold newT
  split
  · exact .room room 0 h1 h2 (by omega) (by omega)
  · split
    · exact .mail
    · split
      · exact .node 3 (8 * ((i : Int) - 2)) (by omega) (by omega) (by omega) (by have : tw2 3 = 8 := rfl; omega)
      · exact .none
theorem newT_two {t room : Int} {i : Nat} (h : (newT t room i).ty = 2) : 2 ≤ i ∧ (i : Int) < 2 + t ∧ newT t room i = rootT ((i : Int) - 2) := by
  unfold newT at h ⊢
  split at h
  · cases h
  · rename_i h0
    split at h
    · cases h
    · rename_i h1
      split at h
      · rename_i h2
        rw [if_neg h0, if_neg h1, if_pos h2]
        exact ⟨by omega, h2, rfl⟩
      · cases h
theorem newT_frm (t room : Int) (i : Nat) : (newT t room i).frm = 0 := by
  unfold newT
  split
  · rfl
  · split
    · rfl
    · split <;> rfl
theorem newT_root {t room : Int} {i : Nat} (h : (i : Int) < t) : newT t room (2 + i) = rootT i := by
  rw [newT, if_neg (by omega), if_neg (by omega), if_pos (by omega)]
  congr 1
  omega
theorem newS_ty {t : Int} {i : Nat} : (newS t i).c.ty ≠ 2 := by
  unfold newS
  split
  · show (1 : Int) ≠ 2
    decide
  · split
    · show (3 : Int) ≠ 2
      decide
    · show (0 : Int) ≠ 2
      decide
theorem newS_one {t : Int} (h : 1 ≤ t) : newS t 1 = ⟨⟨3, 1, 7, 0⟩, -1⟩ := by
  rw [newS, if_neg (by omega), if_pos ⟨by omega, by omega⟩, if_pos rfl]
theorem upOf_new {t : Int} (i : Nat) : upOf (newS t i) = if i = 0 then -1 else if i % 8 = 1 ∧ ((i / 8 : Nat) : Int) < t then (if i = 1 then -1 else 1) else -2 := by
  unfold newS
  split
  · rfl
  · split
    · split <;> rfl
    · rfl
theorem rootT_has {t k : Int} : (rootT t).hasS k = true ↔ 8 * t ≤ k ∧ k < 8 * t + 8 := by
  rw [Tng.hasS_iff]
  have : tw2 3 = 8 := rfl
  simp only [rootT, this, true_and]

section
variable {g : Gd} {room : Int}
theorem new_th (hg : g.ok = true) {i : Nat} (hi : (i : Int) < g.k) : thAt (snewS g room).th i = newT g.t room i := by
  obtain ⟨h1, h2, h3, h4, h5, h6, h7⟩ := Gd.ok_iff.1 hg
  exact thAt_range _ (by omega)
theorem new_sl (hg : g.ok = true) {i : Nat} (hi : (i : Int) < g.s) : slAt (snewS g room).sl i = newS g.t i := by
  obtain ⟨h1, h2, h3, h4, h5, h6, h7⟩ := Gd.ok_iff.1 hg
  exact slAt_range _ (by omega)
theorem new_ths (hg : g.ok = true) : ((snewS g room).th.length : Int) = g.k := by
  obtain ⟨h1, h2, h3, h4, h5, h6, h7⟩ := Gd.ok_iff.1 hg
  simp [snewS]
  omega
theorem new_sls (hg : g.ok = true) : ((snewS g room).sl.length : Int) = g.s := by
  obtain ⟨h1, h2, h3, h4, h5, h6, h7⟩ := Gd.ok_iff.1 hg
  simp [snewS]
  omega
theorem new_root (hg : g.ok = true) {t : Nat} (ht : (t : Int) < g.t) : thAt (snewS g room).th (2 + t) = rootT t := by
  obtain ⟨h1, h2, h3, h4, h5, h6, h7⟩ := Gd.ok_iff.1 hg
  rw [new_th hg (by omega), newT_root ht]
theorem new_owner (hg : g.ok = true) {t k : Nat} (ht : (t : Int) < g.t) (h8 : k / 8 = t) : ownerN (snewS g room).th k = some (2 + t) := by
  obtain ⟨h1, h2, h3, h4, h5, h6, h7⟩ := Gd.ok_iff.1 hg
  refine ownerN_some.2 ⟨?_, ?_, fun j hj => ?_⟩
  · have := new_ths (room := room) hg
    omega
  · rw [new_root hg ht, rootT_has]
    omega
  · rw [new_th hg (by omega), Bool.eq_false_iff]
    intro e
    obtain ⟨a, b, c⟩ := newT_two (Tng.hasS_iff.1 e).1
    rw [c, rootT_has] at e
    omega
theorem new_edges (hg : g.ok = true) : edgesN (snewS g room).th (snewS g room).sl = [] := by
  refine List.eq_nil_iff_forall_not_mem.2 fun e he => ?_
  obtain ⟨i, h1, h2, _⟩ := mem_edges.1 he
  have := new_sls (room := room) hg
  rw [new_sl hg (by omega)] at h2
  exact newS_ty h2
theorem snew_good (hg : g.ok = true) (hr : inr3 room 1 4096 = true) : sgood (snewS g room) = true := by
  have hth := new_ths (room := room) hg
  have hsl := new_sls (room := room) hg
  have hth2 : ∀ i : Nat, i < (snewS g room).th.length → thAt (snewS g room).th i = newT g.t room i := fun i h => new_th hg (by omega)
  have hsl2 : ∀ i : Nat, i < (snewS g room).sl.length → slAt (snewS g room).sl i = newS g.t i := fun i h => new_sl hg (by omega)
  have hown : ∀ {t k : Nat}, (t : Int) < g.t → k / 8 = t → ownerN (snewS g room).th k = some (2 + t) := fun h1 h2 => new_owner hg h1 h2
  have hed := new_edges (room := room) hg
  have hgg : (snewS g room).g = g := rfl
  obtain ⟨h1, h2, h3, h4, h5, h6, h7⟩ := Gd.ok_iff.1 hg
  obtain ⟨r1, r2⟩ := inr3_iff.1 hr
  generalize hs : snewS g room = s at *
  have h80 : tw2 3 = 8 := rfl
  refine sgood_iff.2 ⟨?_, fun i hi => ?_, fun t ht => ?_, fun i hi => ?_, ?_, fun i hi => ?_, fun i hi => ?_⟩
  · rw [St.k1, hgg, hg, decide_eq_true hsl, decide_eq_true hth]; rfl
  · rw [St.k2, hth2 i hi, Bool.and_eq_true, Bool.and_eq_true, Bool.and_eq_true]
    refine ⟨tng_good.2 (newT_good h2 r1 r2), ?_, ?_, ?_⟩
    · rw [St.fits2, hgg]
      by_cases e : (newT g.t room i).ty = 2
      · obtain ⟨a, b, c⟩ := newT_two e
        rw [c]
        simp only [rootT, h80, beq_self_eq_true, Bool.true_and, Bool.not_eq_true', decide_eq_false_iff_not]
        omega
      · rw [beq_eq_false_iff_ne.2 e]; rfl
    · rw [List.all_eq_true]
      intro k hk
      rw [List.mem_range] at hk
      rw [hth2 k (by omega), Bool.not_eq_true', Bool.eq_false_iff]
      intro e
      simp only [Tng.meets, Bool.and_eq_true, beq_iff_eq, decide_eq_true_eq] at e
      obtain ⟨a, b, c⟩ := newT_two e.1
      obtain ⟨a', b', c'⟩ := newT_two e.2.1
      rw [c, c'] at e
      simp only [rootT, h80] at e
      omega
    · rw [St.from2, newT_frm]; rfl
  · rw [hgg] at ht
    rw [St.k3, hth2 (2 + t) (by omega), newT_root ht]
    exact Tng.eq_self _
  · rw [St.k4, hsl2 i hi]
    by_cases e0 : i = 0
    · subst e0
      have hd : (newS g.t 0) = ⟨⟨1, 0, 7, 0⟩, -1⟩ := rfl
      rw [hd]
      simp only [show Cp.good ⟨1, 0, 7, 0⟩ = true by decide +kernel, Bool.true_and, show ¬ (1 : Int) = 0 by decide, if_false]
      rw [St.thing4, hown (t := 0) (by omega) (by omega), Bool.and_eq_true, Bool.and_eq_true]
      refine ⟨⟨decide_eq_true (show (0 : Int) < (s.th.length : Int) by omega), ?_⟩, rfl⟩
      show (thAt s.th 0).ty == 1
      rw [hth2 0 (by omega)]
      rfl
    · by_cases e1 : i % 8 = 1 ∧ ((i / 8 : Nat) : Int) < g.t
      · obtain ⟨u, hu⟩ : ∃ u, newS g.t i = ⟨⟨3, 1, 7, 0⟩, u⟩ := ⟨_, by rw [newS, if_neg e0, if_pos e1]⟩
        rw [hu]
        simp only [show Cp.good ⟨3, 1, 7, 0⟩ = true by decide +kernel, Bool.true_and, show ¬ (3 : Int) = 0 by decide, if_false]
        rw [St.thing4, hown (t := i / 8) e1.2 rfl, Bool.and_eq_true, Bool.and_eq_true]
        refine ⟨⟨decide_eq_true (show (1 : Int) < (s.th.length : Int) by omega), ?_⟩, rfl⟩
        show (thAt s.th 1).ty == 3
        rw [hth2 1 (by omega)]
        rfl
      · rw [newS, if_neg e0, if_neg e1]
        rfl
  · have hlen := upsOf_length s.sl
    have hfu : ∀ k, fu (upsOf s.sl) k ≠ -2 → (fu (upsOf s.sl) k = -1 ∨ fu (upsOf s.sl) k = 1 ∧ k ≠ 1) := fun k hk => by
      have hk2 := fu_in hk
      rw [hlen] at hk2
      rw [fu_ups hk2, hsl2 k hk2, upOf_new] at hk ⊢
      split
      · exact .inl rfl
      · split
        · split
          · exact .inl rfl
          · rename_i q
            exact .inr ⟨rfl, q⟩
        · rename_i q1 q2
          rw [if_neg q1, if_neg q2] at hk
          exact absurd rfl hk
    have hone : fu (upsOf s.sl) 1 = -1 := by rw [fu_ups (by omega), hsl2 1 (by omega), upOf_new, if_neg (by omega), if_pos ⟨by omega, by omega⟩, if_pos rfl]
    refine fo_iff.2 (fo_of_rank (by omega) (fun k => ?_) (fun k j hj => ?_) (fun k => if k = 1 then 0 else 1) (fun k j hj => ?_) fun k hk => ?_)
    · by_cases e : fu (upsOf s.sl) k = -2
      · omega
      · rcases hfu k e with e | e <;> omega
    · rcases hfu k (by omega) with e | e
      · omega
      · obtain rfl : j = 1 := by omega
        exact ⟨by omega, by omega⟩
    · rcases hfu k (by omega) with e | e
      · omega
      · obtain rfl : j = 1 := by omega
        rw [if_pos rfl, if_neg e.2]
        omega
    · show (if k = 1 then 0 else 1) < _
      split <;> omega
  · rw [St.k6, hsl2 i hi]
    by_cases e0 : i = 0
    · subst e0; rfl
    · by_cases e1 : i % 8 = 1 ∧ ((i / 8 : Nat) : Int) < g.t
      · rw [newS, if_neg e0, if_pos e1]
        by_cases e2 : i = 1
        · rw [if_pos e2]; rfl
        · rw [if_neg e2]
          show (_ || (_ && (_ || cameOk ⟨3, 1, 7, 0⟩ (slAt s.sl 1).c))) = true
          rw [hsl2 1 (by omega), newS_one h1]
          decide +kernel
      · rw [newS, if_neg e0, if_neg e1]
        rfl
  · rw [St.k7, Bool.and_eq_true]
    refine ⟨?_, ?_⟩
    · rw [hth2 i hi, Bool.not_eq_true', Bool.and_eq_false_iff, Bool.and_eq_false_iff]
      by_cases e0 : i = 0
      · subst e0
        refine .inr (.inr ?_)
        rw [List.isEmpty_eq_false_iff_exists_mem]
        refine ⟨0, mem_holdN.2 ⟨by omega, ?_, ?_⟩⟩ <;> rw [hsl2 0 (by omega)]
        · show (1 : Int) ≠ 0
          decide
        · rfl
      · by_cases e1 : i = 1
        · subst e1
          refine .inr (.inr ?_)
          rw [List.isEmpty_eq_false_iff_exists_mem]
          refine ⟨1, mem_holdN.2 ⟨by omega, ?_, ?_⟩⟩ <;> rw [hsl2 1 (by omega), newS_one h1]
          · decide
          · rfl
        · by_cases e2 : (i : Int) < 2 + g.t
          · refine .inr (.inl ?_)
            rw [Bool.not_eq_false', St.root, hgg, decide_eq_true (by omega), decide_eq_true e2]
            rfl
          · refine .inl ?_
            rw [newT, if_neg e0, if_neg e1, if_neg e2]
            rfl
    · rw [ringN, hed]
      simp
theorem hold_tab : ∀ q, q ≤ 12 → ∀ t, t ≤ 4 → t ≤ q → ((List.range (8 * q)).filter fun i => decide (i % 8 = 1) && decide (i / 8 < t)).length = t := by decide +kernel
theorem new_hold (hg : g.ok = true) : ((holdN (snewS g room).sl 1).length : Int) = g.t := by
  have hsl := new_sls (room := room) hg
  have hsl2 : ∀ i : Nat, i < (snewS g room).sl.length → slAt (snewS g room).sl i = newS g.t i := fun i h => new_sl hg (by omega)
  obtain ⟨h1, h2, h3, h4, h5, h6, h7⟩ := Gd.ok_iff.1 hg
  have ht := hold_tab (g.s.toNat / 8) (by omega) g.t.toNat (by omega) (by omega)
  rw [show 8 * (g.s.toNat / 8) = (snewS g room).sl.length by omega] at ht
  rw [holdN, List.filter_congr (q := fun i => decide (i % 8 = 1) && decide (i / 8 < g.t.toNat)) (fun i hi => ?_), ht]
  · omega
  · rw [List.mem_range] at hi
    rw [hsl2 i hi, holds, newS]
    by_cases e0 : i = 0
    · subst e0; rfl
    · rw [if_neg e0]
      by_cases e1 : i % 8 = 1 ∧ ((i / 8 : Nat) : Int) < g.t
      · have e2 : i / 8 < g.t.toNat := by omega
        rw [if_pos e1, decide_eq_true e1.1, decide_eq_true e2]; rfl
      · rw [if_neg e1]
        show false = _
        symm
        rw [Bool.and_eq_false_iff, decide_eq_false_iff_not, decide_eq_false_iff_not]
        by_cases e2 : i % 8 = 1
        · exact .inr fun h => e1 ⟨e2, by omega⟩
        · exact .inl e2
theorem new_free (hg : g.ok = true) : freeN (snewS g room).th = if 2 + g.t < g.k then some (2 + g.t.toNat) else none := by
  have hth := new_ths (room := room) hg
  have hth2 : ∀ i : Nat, i < (snewS g room).th.length → thAt (snewS g room).th i = newT g.t room i := fun i h => new_th hg (by omega)
  obtain ⟨h1, h2, h3, h4, h5, h6, h7⟩ := Gd.ok_iff.1 hg
  have hty : ∀ j : Nat, (j : Int) < 2 + g.t → (newT g.t room j).ty ≠ 0 := fun j hj => by
    unfold newT
    split
    · show (1 : Int) ≠ 0
      decide
    · split
      · show (3 : Int) ≠ 0
        decide
      · show (2 : Int) ≠ 0
        decide
  split
  · refine freeN_some.2 ⟨by omega, ?_, fun j hj => ?_⟩
    · rw [hth2 _ (by omega), newT, if_neg (by omega), if_neg (by omega), if_neg (by omega)]; rfl
    · rw [hth2 _ (by omega)]; exact hty j (by omega)
  · refine freeN_none.2 fun j hj => ?_
    rw [hth2 _ hj]
    exact hty j (by omega)
end
end Go.Proofs.Ytkpbfbmkolgmgaa
namespace Go.Proofs.Ytkpbfbmkolgmgaa
open Go.RowKit

/-- a slot in memory -/
structure SlC (w : World) (b o : Nat) (x : Sl) : Prop where
  c0 : w.cell? ⟨b, o, none⟩ = some (.int .i64 x.c.ty)
  c1 : w.cell? ⟨b, o + 1, none⟩ = some (.int .i64 x.c.th)
  c2 : w.cell? ⟨b, o + 2, none⟩ = some (.int .i64 x.c.ri)
  c3 : w.cell? ⟨b, o + 3, none⟩ = some (.int .i64 x.c.ba)
  c4 : w.cell? ⟨b, o + 4, none⟩ = some (.int .i64 x.up)
theorem SlC.same {w w' : World} {b o : Nat} {x : Sl} (h : SlC w b o x) (e : ∀ k, w'.cell? ⟨b, k, none⟩ = w.cell? ⟨b, k, none⟩) : SlC w' b o x :=
  ⟨(e _).trans h.c0, (e _).trans h.c1, (e _).trans h.c2, (e _).trans h.c3, (e _).trans h.c4⟩
/-- a thing in memory -/
structure ThC (w : World) (b o : Nat) (t : Tng) : Prop where
  c0 : w.cell? ⟨b, o, none⟩ = some (.int .i64 t.ty)
  c1 : w.cell? ⟨b, o + 1, none⟩ = some (.int .i64 t.bits)
  c2 : w.cell? ⟨b, o + 2, none⟩ = some (.int .i64 t.base)
  c3 : w.cell? ⟨b, o + 3, none⟩ = some (.int .i64 t.size)
  c4 : w.cell? ⟨b, o + 4, none⟩ = some (.int .i64 t.used)
  c5 : w.cell? ⟨b, o + 5, none⟩ = some (.int .i64 t.frm)
  c6 : w.cell? ⟨b, o + 6, none⟩ = some (.int .i64 t.badge)
  c7 : w.cell? ⟨b, o + 7, none⟩ = some (.bool t.full)
  c8 : w.cell? ⟨b, o + 8, none⟩ = some (.int .u64 (t.word : Int))
  c9 : w.cell? ⟨b, o + 9, none⟩ = some (.int .u64 (t.d0 : Int))
  c10 : w.cell? ⟨b, o + 10, none⟩ = some (.int .u64 (t.d1 : Int))
  c11 : w.cell? ⟨b, o + 11, none⟩ = some (.int .u64 (t.d2 : Int))
  c12 : w.cell? ⟨b, o + 12, none⟩ = some (.int .u64 (t.d3 : Int))
theorem ThC.same {w w' : World} {b o : Nat} {t : Tng} (h : ThC w b o t) (e : ∀ k, w'.cell? ⟨b, k, none⟩ = w.cell? ⟨b, k, none⟩) : ThC w' b o t :=
  ⟨(e _).trans h.c0, (e _).trans h.c1, (e _).trans h.c2, (e _).trans h.c3, (e _).trans h.c4, (e _).trans h.c5, (e _).trans h.c6, (e _).trans h.c7, (e _).trans h.c8, (e _).trans h.c9, (e _).trans h.c10, (e _).trans h.c11, (e _).trans h.c12⟩
def SlotsAt (w : World) (B : Nat) (A : Option Addr) (l : List Sl) : Prop := 0 < l.length → ∃ b o, A = some ⟨b, o, none⟩ ∧ b < B ∧ ∀ j, j < l.length → SlC w b (o + j * 5) (slAt l j)
def ThingsAt (w : World) (B : Nat) (A : Option Addr) (l : List Tng) : Prop := 0 < l.length → ∃ b o, A = some ⟨b, o, none⟩ ∧ b < B ∧ ∀ j, j < l.length → ThC w b (o + j * 13) (thAt l j)
section
variable {w w' : World} {B B' : Nat} {A C : Option Addr} {l : List Sl} {m : List Tng}
theorem SlotsAt.below (h : SlotsAt w B A l) (hb : Below B w w') : SlotsAt w' B A l := fun h0 => by
  obtain ⟨b, o, e, hlt, hc⟩ := h h0
  exact ⟨b, o, e, hlt, fun j hj => (hc j hj).same fun k => hb.cell (p := ⟨b, k, none⟩) hlt⟩
theorem SlotsAt.mono (h : SlotsAt w B A l) (hB : B ≤ B') : SlotsAt w B' A l := fun h0 => by
  obtain ⟨b, o, e, hlt, hc⟩ := h h0
  exact ⟨b, o, e, by omega, hc⟩
theorem SlotsAt.on (h : SlotsAt w w.heap.size A l) (hb : Below w.heap.size w w') : SlotsAt w' w'.heap.size A l := (h.below hb).mono hb.size
theorem ThingsAt.below (h : ThingsAt w B A m) (hb : Below B w w') : ThingsAt w' B A m := fun h0 => by
  obtain ⟨b, o, e, hlt, hc⟩ := h h0
  exact ⟨b, o, e, hlt, fun j hj => (hc j hj).same fun k => hb.cell (p := ⟨b, k, none⟩) hlt⟩
theorem ThingsAt.mono (h : ThingsAt w B A m) (hB : B ≤ B') : ThingsAt w B' A m := fun h0 => by
  obtain ⟨b, o, e, hlt, hc⟩ := h h0
  exact ⟨b, o, e, by omega, hc⟩
theorem ThingsAt.on (h : ThingsAt w w.heap.size A m) (hb : Below w.heap.size w w') : ThingsAt w' w'.heap.size A m := (h.below hb).mono hb.size
end
/-- how a state lies -/
structure StAt (w : World) (s : St) (A C : Option Addr) : Prop where
  sl : SlotsAt w w.heap.size A s.sl
  th : ThingsAt w w.heap.size C s.th
theorem StAt.on {w w' : World} {s : St} {A C : Option Addr} (h : StAt w s A C) (hb : Below w.heap.size w w') : StAt w' s A C := ⟨h.sl.on hb, h.th.on hb⟩
/-- a state in a box; all that was there is as it was -/
structure Sbx (W w : World) (g : Nat) (a b c : Int) (A : Option Addr) (n ca : Nat) (C : Option Addr) (m cc : Nat) : Prop where
  c0 : w.cell? ⟨g, 0, none⟩ = some (.int .i64 a)
  c1 : w.cell? ⟨g, 1, none⟩ = some (.int .i64 b)
  c2 : w.cell? ⟨g, 2, none⟩ = some (.int .i64 c)
  c3 : w.cell? ⟨g, 3, none⟩ = some (.slice A n ca)
  c4 : w.cell? ⟨g, 4, none⟩ = some (.slice C m cc)
  old : Below W.heap.size W w
  base : W.heap.size ≤ g
  lt : g < w.heap.size
section
variable {W w w' : World} {g : Nat} {a b c : Int} {A : Option Addr} {n ca : Nat} {C : Option Addr} {m cc : Nat}
theorem Sbx.new (w : World) (a b c : Int) (A : Option Addr) (n ca : Nat) (C : Option Addr) (m cc : Nat) (t : TypeId) : Sbx w (w.alloc (.cells #[.int .i64 a, .int .i64 b, .int .i64 c, .slice A n ca, .slice C m cc] t)) w.heap.size a b c A n ca C m cc := by
  have hg := heap_alloc_new w (.cells #[.int .i64 a, .int .i64 b, .int .i64 c, .slice A n ca, .slice C m cc] t)
  constructor
  case old => exact below_alloc _ _
  case base => exact Nat.le_refl _
  case lt => simp
  all_goals (rw [cell_of_row _ _ _ _ _ _ hg]; rfl)
theorem Sbx.on (h : Sbx W w g a b c A n ca C m cc) (hb : Below w.heap.size w w') : Sbx W w' g a b c A n ca C m cc := by
  have e : ∀ k, w'.cell? ⟨g, k, none⟩ = w.cell? ⟨g, k, none⟩ := fun k => hb.cell (p := ⟨g, k, none⟩) h.lt
  exact ⟨(e _).trans h.c0, (e _).trans h.c1, (e _).trans h.c2, (e _).trans h.c3, (e _).trans h.c4, below_on h.old hb, h.base, Nat.lt_of_lt_of_le h.lt hb.size⟩
end

/-! ### has, owner -/
def ThOk (l : List Tng) : Prop := ∀ i, i < l.length → (thAt l i).good = true
theorem ThOk.small {l : List Tng} (h : ThOk l) {i : Nat} (hi : i < l.length) : Smallth (thAt l i) := (tng_good.1 (h i hi)).small
def OwRel (W : World) (g : Nat) (a b c : Int) (A : Option Addr) (n ca : Nat) (C : Option Addr) (m cc : Nat) (l : List Tng) (k : Int) (f : Nat) (p : Value) (wr : World) : Prop :=
  ∃ i : Nat, f + i = m ∧ p = .int .i64 i ∧ (∀ j, j < i → (thAt l j).hasS k = false) ∧ Sbx W wr g a b c A n ca C m cc
end Go.Proofs.Ytkpbfbmkolgmgaa
namespace Go.Proofs.Ytkpbfbmkolgmgaa
open Go.RowKit

/-! ### bools of a call's own -/
theorem madeb_cell (w : World) (z : Array Value) (n t k : Nat) (hk : k < n) : (w.alloc (.cells (madeCells z n) t)).cell? ⟨w.heap.size, k, none⟩ = some (z[k % z.size]!) := by
  have e := heap_alloc_new w (.cells (madeCells z n) t)
  rw [cell_of_row _ _ k _ _ _ e]
  unfold madeCells
  simp [hk]
theorem infob_all : (Try.prog.info? 4).map (fun i => (i.zero, i.size, i.bytes)) = some (some (.bool false), 1, 1) := by kernel_rfl
theorem infob_parts : ∃ i : TypeInfo, Try.prog.info? 4 = some i ∧ i.zero = some (.bool false) ∧ i.size = 1 ∧ i.bytes = 1 := by
  have h := infob_all
  cases hq : Try.prog.info? 4 with
  | none => simp [hq] at h
  | some i =>
    simp [hq] at h
    exact ⟨i, rfl, h.1, h.2.1, h.2.2⟩
/-- a state's box, and bools of the call's own -/
structure Ub (W w : World) (g : Nat) (a b c : Int) (A : Option Addr) (n ca : Nat) (C : Option Addr) (m cc : Nat) (G N : Nat) (u : Nat → Bool) : Prop where
  box : Sbx W w g a b c A n ca C m cc
  cell : ∀ j, j < N → w.cell? ⟨G, j, none⟩ = some (.bool (u j))
  free : ∀ j, w.frozen? ⟨G, j, none⟩ = false
  ne : g < G
  lt : G < w.heap.size
section
variable {W w w' : World} {g : Nat} {a b c : Int} {A : Option Addr} {n ca : Nat} {C : Option Addr} {m cc G N : Nat} {u v : Nat → Bool}
theorem Ub.on (h : Ub W w g a b c A n ca C m cc G N u) (hb : Below w.heap.size w w') : Ub W w' g a b c A n ca C m cc G N u :=
  ⟨h.box.on hb, fun j hj => by rw [hb.cell (p := ⟨G, _, none⟩) h.lt]; exact h.cell j hj,
    fun j => by rw [World.frozen?_of_block (w := w) (a := ⟨G, j, none⟩) (hb.block G h.lt)]; exact h.free j, h.ne, Nat.lt_of_lt_of_le h.lt hb.size⟩
theorem Ub.same (h : Ub W w g a b c A n ca C m cc G N u) (e : ∀ j, j < N → u j = v j) : Ub W w g a b c A n ca C m cc G N v :=
  ⟨h.box, fun j hj => by rw [h.cell j hj, e j hj], h.free, h.ne, h.lt⟩
theorem Ub.set (h : Ub W w g a b c A n ca C m cc G N u) (i : Nat) : Ub W (w.setCell ⟨G, i, none⟩ (.bool true)) g a b c A n ca C m cc G N (fun j => j == i || u j) := by
  have hB : Below W.heap.size W (w.setCell ⟨G, i, none⟩ (.bool true)) := h.box.old.setCell (p := ⟨G, i, none⟩) (by have := h.box.base; have := h.ne; show W.heap.size ≤ G; omega) _
  have hn : ∀ j, (w.setCell ⟨G, i, none⟩ (.bool true)).cell? ⟨g, j, none⟩ = w.cell? ⟨g, j, none⟩ := fun j => World.cell?_setCell_other _ _ _ _ (fun q => by injection q with q; have := h.ne; omega)
  refine ⟨⟨(hn _).trans h.box.c0, (hn _).trans h.box.c1, (hn _).trans h.box.c2, (hn _).trans h.box.c3, (hn _).trans h.box.c4, hB, h.box.base, by simpa [World.setCell] using h.box.lt⟩, fun j hj => ?_, fun j => by rw [World.frozen?_setCell]; exact h.free j, h.ne, by simpa [World.setCell] using h.lt⟩
  by_cases e : j = i
  · subst e
    rw [World.cell?_setCell_same _ _ _ (h.cell j hj)]
    simp
  · rw [World.cell?_setCell_other _ _ _ _ (fun q => e (by injection q with _ q; exact q.symm)), h.cell j hj]
    simp [e]
theorem Ub.new (h : Sbx W w g a b c A n ca C m cc) (N : Nat) (t : TypeId) : Ub W (w.alloc (.cells (madeCells #[.bool false] N) t)) g a b c A n ca C m cc w.heap.size N (fun _ => false) :=
  ⟨h.on (below_alloc _ _), fun j hj => by rw [madeb_cell _ _ _ _ _ hj]; simp [Nat.mod_one], fun j => frozen_of_row _ _ j _ _ (heap_alloc_new w _), h.lt, by simp⟩
end

theorem Ub.newx {W w : World} {g : Nat} {a b c : Int} {A : Option Addr} {n ca : Nat} {C : Option Addr} {m cc : Nat} (h : Sbx W w g a b c A n ca C m cc) (N x : Nat) (t : TypeId) :
    Ub W (w.alloc (.cells ((madeCells #[.bool false] N).setIfInBounds x (.bool true)) t)) g a b c A n ca C m cc w.heap.size N (kstart x) := by
  refine ⟨h.on (below_alloc _ _), fun j hj => ?_, fun j => frozen_of_row _ _ j _ _ (heap_alloc_new w _), h.lt, by simp⟩
  have h1 := madeb_cell w #[.bool false] N t j hj
  rw [cell_of_row _ _ j _ _ _ (heap_alloc_new w _)] at h1 ⊢
  have hz : j < (madeCells #[Value.bool false] N).size := (Array.getElem?_eq_some_iff.1 h1).1
  rw [Array.getElem?_setIfInBounds]
  by_cases e : x = j
  · subst e
    rw [if_pos rfl, if_pos hz]
    simp [kstart]
  · rw [if_neg e, h1]
    have e2 : ¬ j = x := fun q => e q.symm
    simp [Nat.mod_one, kstart, e2]

/-! ### slot by slot -/
def edgesTo (th : List Tng) (sl : List Sl) (i : Nat) : List (Nat × Nat) := (List.range i).filterMap (edgeOf th sl)
theorem edgesTo_all (th : List Tng) (sl : List Sl) : edgesTo th sl sl.length = edgesN th sl := rfl
theorem kround_zero (th : List Tng) (sl : List Sl) (u : Nat → Bool) : kround (edgesTo th sl 0) u = u := rfl
theorem kround_none {th : List Tng} {sl : List Sl} {i : Nat} (h : edgeOf th sl i = none) (u : Nat → Bool) : kround (edgesTo th sl (i + 1)) u = kround (edgesTo th sl i) u := by
  rw [kround, edgesTo, List.range_succ, List.filterMap_append, List.foldl_append]
  simp [h]
  rfl
theorem kround_some {th : List Tng} {sl : List Sl} {i : Nat} {e : Nat × Nat} (h : edgeOf th sl i = some e) (u : Nat → Bool) : kround (edgesTo th sl (i + 1)) u = kcome (kround (edgesTo th sl i) u) e := by
  rw [kround, edgesTo, List.range_succ, List.filterMap_append, List.foldl_append]
  simp [h]
  rfl
/-- the capabilities of Nodes name things that are there -/
def NdIn (s : St) : Prop := ∀ i, i < s.sl.length → (slAt s.sl i).c.ty = 2 → 0 ≤ (slAt s.sl i).c.th ∧ (slAt s.sl i).c.th < s.th.length
/-- the bools that are handed back -/
def UnderF (w w' : World) (e : Ending) (m : Nat) (u : Nat → Bool) : Prop := ∃ G, e = .returned (.slice (some ⟨G, 0, none⟩) m m) ∧ (∀ j, j < m → w'.cell? ⟨G, j, none⟩ = some (.bool (u j))) ∧ G < w'.heap.size ∧ Below w.heap.size w w'
def UnRel (W : World) (g : Nat) (a b c : Int) (A : Option Addr) (n ca : Nat) (C : Option Addr) (m cc G : Nat) (E : List (Nat × Nat)) (x : Nat) (f : Nat) (p : Value) (wr : World) : Prop :=
  ∃ i : Nat, f + i = m ∧ p = .int .i64 i ∧ Ub W wr g a b c A n ca C m cc G m (krounds E i (kstart x))
def UnRel2 (W : World) (g : Nat) (a b c : Int) (A : Option Addr) (n ca : Nat) (C : Option Addr) (m cc G : Nat) (th : List Tng) (sl : List Sl) (u : Nat → Bool) (f : Nat) (p : Value) (wr : World) : Prop :=
  ∃ i : Nat, f + i = n ∧ p = .int .i64 i ∧ Ub W wr g a b c A n ca C m cc G m (kround (edgesTo th sl i) u)
end Go.Proofs.Ytkpbfbmkolgmgaa
namespace Go.Proofs.Ytkpbfbmkolgmgaa
open Go.RowKit

/-! ### free -/
def FrRel (W : World) (g : Nat) (a b c : Int) (A : Option Addr) (n ca : Nat) (C : Option Addr) (m cc : Nat) (l : List Tng) (f : Nat) (p : Value) (wr : World) : Prop :=
  ∃ i : Nat, f + i = m ∧ p = .int .i64 i ∧ (∀ j, j < i → (thAt l j).ty ≠ 0) ∧ Sbx W wr g a b c A n ca C m cc
/-! ### holders -/
theorem Bi.none (w : World) : Bi w w (.slice none 0 0) [] := ⟨World.ownsRow_nil _ _ _ _, Below.refl _ _⟩
theorem Bi.intsc {W w : World} {v : Value} {l : List Int} (h : Bi W w v l) : ∃ A cap, v = .slice A l.length cap ∧ l.length ≤ cap ∧ IntsAt w w.heap.size A l := by
  obtain ⟨A, cap, e, hi⟩ := h.ints
  refine ⟨A, cap, e, ?_, hi⟩
  rcases h.own.2 with ⟨q, h0⟩ | ⟨g, cap', cur, q, hb, hg, h1, h2, h3, h4⟩
  · rw [h0]; omega
  · rw [e] at q
    injection q with _ q1 q2
    omega
def HoRel (W : World) (n : Nat) (P : Nat → Bool) (f : Nat) (v q : Value) (wr : World) : Prop :=
  ∃ i : Nat, f + i = n ∧ q = .int .i64 i ∧ Bi W wr v (toInts (pick P i))
theorem holdN_pick (sl : List Sl) (t : Int) : holdN sl t = pick (fun i => holds t (slAt sl i)) sl.length := rfl
/-! ### ring -/
theorem ring_yes {s : St} {x i : Nat} (hi : i < s.sl.length) (h2 : (slAt s.sl i).c.ty = 2) (ho : ownerN s.th i = some x) (hu : underN s (slAt s.sl i).c.th.toNat x = true) : ringN s x = true := by
  rw [ringN, List.any_eq_true]
  exact ⟨(x, (slAt s.sl i).c.th.toNat), mem_edges.2 ⟨i, hi, h2, ho, rfl⟩, by rw [hu]; simp⟩
theorem ring_no {s : St} {x : Nat} (h : ∀ i, i < s.sl.length → (slAt s.sl i).c.ty = 2 → ownerN s.th i = some x → underN s (slAt s.sl i).c.th.toNat x = false) : ringN s x = false := by
  rw [Bool.eq_false_iff]
  intro e
  rw [ringN, List.any_eq_true] at e
  obtain ⟨⟨o, y⟩, h1, h2⟩ := e
  rw [Bool.and_eq_true, beq_iff_eq] at h2
  obtain ⟨rfl, h3⟩ := h2
  obtain ⟨i, hi, h4, h5, h6⟩ := mem_edges.1 h1
  have := h i hi h4 h5
  simp only at h6 h3
  rw [h6, h3] at this
  cases this
/-- nothing at this slot -/
def noRing (s : St) (x i : Nat) : Prop := (slAt s.sl i).c.ty = 2 → ownerN s.th i = some x → underN s (slAt s.sl i).c.th.toNat x = false
def RiRel (W : World) (g : Nat) (a b c : Int) (A : Option Addr) (n ca : Nat) (C : Option Addr) (m cc : Nat) (s : St) (x : Nat) (f : Nat) (p : Value) (wr : World) : Prop :=
  ∃ i : Nat, f + i = n ∧ p = .int .i64 i ∧ (∀ j, j < i → noRing s x j) ∧ Sbx W wr g a b c A n ca C m cc
/-! ### inside -/
/-! ### gap -/
def gv (r : Option Nat) : Value := .tuple #[.int .i64 ((r.getD 0 : Nat) : Int), .bool r.isSome]
theorem gapF_no {own : Nat → Bool} {m n b : Nat} (h : ∀ c, c < b → gapAt own n c = false) (hb : m < b + n) : gapF own m n = none := by
  rw [gapF, List.find?_eq_none]
  intro c hc
  rw [List.mem_range] at hc
  rw [h c (by omega)]
  decide
theorem gapF_yes {own : Nat → Bool} {m n b : Nat} (h : ∀ c, c < b → gapAt own n c = false) (hb : b + n ≤ m) (hg : gapAt own n b = true) : gapF own m n = some b := find_least (by omega) hg h
theorem gapAt_succ (own : Nat → Bool) (n b : Nat) : gapAt own (n + 1) b = (gapAt own n b && !own (b + n)) := by
  rw [gapAt, List.range_succ, List.all_append]
  simp [gapAt]
theorem tw2_is {b : Int} (h1 : 1 ≤ b) (h2 : b ≤ 4) : ∃ N : Nat, tw2 b = N ∧ 2 ≤ N ∧ N ≤ 16 := by
  have : b = 1 ∨ b = 2 ∨ b = 3 ∨ b = 4 := by omega
  rcases this with h | h | h | h <;> rw [h]
  · exact ⟨2, rfl, by omega, by omega⟩
  · exact ⟨4, rfl, by omega, by omega⟩
  · exact ⟨8, rfl, by omega, by omega⟩
  · exact ⟨16, rfl, by omega, by omega⟩
theorem optI_neg (r : Option Nat) : decide (optI r < 0) = !r.isSome := by
  rcases r with _ | o
  · rfl
  · show decide ((o : Int) < 0) = false
    exact decide_eq_false (by omega)
def GaRel (W : World) (g : Nat) (a b c : Int) (A : Option Addr) (n ca : Nat) (C : Option Addr) (m cc : Nat) (own : Nat → Bool) (N : Nat) (f : Nat) (p : Value) (wr : World) : Prop :=
  ∃ i : Nat, f + i = n + 1 ∧ i ≤ n + 1 ∧ p = .int .i64 i ∧ (∀ j, j < i → gapAt own N j = false) ∧ Sbx W wr g a b c A n ca C m cc
def GaRel2 (W : World) (g : Nat) (a b c : Int) (A : Option Addr) (n ca : Nat) (C : Option Addr) (m cc : Nat) (own : Nat → Bool) (N i : Nat) (f : Nat) (p q : Value) (wr : World) : Prop :=
  ∃ j : Nat, f + j = N ∧ p = .bool (gapAt own j i) ∧ q = .int .i64 ((i + j : Nat) : Int) ∧ Sbx W wr g a b c A n ca C m cc
end Go.Proofs.Ytkpbfbmkolgmgaa
namespace Go.Proofs.Ytkpbfbmkolgmgaa
open Go.RowKit

def upsTo (l : List Sl) (i : Nat) : List Int := upsOf (l.take i)
theorem upsTo_all (l : List Sl) : upsTo l l.length = upsOf l := by rw [upsTo, List.take_length]
theorem upsTo_zero (l : List Sl) : upsTo l 0 = [] := rfl
theorem upsTo_succ {l : List Sl} {i : Nat} (h : i < l.length) : upsTo l (i + 1) = upsTo l i ++ [upOf (slAt l i)] := by
  rw [upsTo, List.take_add_one, slAt_get h, upsOf, List.map_append]
  rfl
theorem upsTo_len (l : List Sl) (i : Nat) : (upsTo l i).length ≤ i := by
  rw [upsTo, upsOf, List.length_map]
  exact List.length_take_le ..
def UpRel3 (W : World) (n : Nat) (l : List Sl) (f : Nat) (v q : Value) (wr : World) : Prop :=
  ∃ i : Nat, f + i = n ∧ q = .int .i64 i ∧ Bi W wr v (upsTo l i)
end Go.Proofs.Ytkpbfbmkolgmgaa
namespace Go.Proofs.Ytkpbfbmkolgmgaa
open Go.RowKit

theorem Gst.ok {s : St} (h : Gst s) : s.g.ok = true := by
  have := h.k1
  rw [St.k1, Bool.and_eq_true] at this
  exact this.1
theorem Gst.lens {s : St} (h : Gst s) : (s.sl.length : Int) = s.g.s ∧ (s.th.length : Int) = s.g.k := by
  have := h.k1
  rw [St.k1, Bool.and_eq_true, Bool.and_eq_true, decide_eq_true_eq, decide_eq_true_eq] at this
  exact this.2
theorem Gst.few {s : St} (h : Gst s) : s.sl.length ≤ 96 ∧ s.th.length ≤ 48 := by
  have h1 := Gd.ok_iff.1 h.ok
  have h2 := h.lens
  omega
theorem Gst.thok {s : St} (h : Gst s) : ThOk s.th := fun i hi => by
  have := h.k2 i hi
  rw [St.k2, Bool.and_eq_true] at this
  exact this.1
theorem Gst.ndin {s : St} (h : Gst s) : NdIn s := fun j hj h2 => by
  have h4 := h.k4 j hj
  have hne : ¬ (slAt s.sl j).c.ty = 0 := by omega
  rw [St.k4, if_neg hne, Bool.and_eq_true, Bool.and_eq_true, St.thing4, Bool.and_eq_true, decide_eq_true_eq] at h4
  exact ⟨((good_iff_all.1 h4.1).resolve_left (fun q => hne q.1)).2.2.1, h4.2.1.1⟩
end Go.Proofs.Ytkpbfbmkolgmgaa
namespace Go.Proofs.Ytkpbfbmkolgmgaa
open Go.RowKit

def Sl.val (x : Sl) : Value := .agg #[.int .i64 x.c.ty, .int .i64 x.c.th, .int .i64 x.c.ri, .int .i64 x.c.ba, .int .i64 x.up]
theorem sl_ext {l m : List Sl} (h : l.length = m.length) (e : ∀ j, j < l.length → slAt l j = slAt m j) : l = m := by
  refine List.ext_getElem? fun j => ?_
  rcases Nat.lt_or_ge j l.length with hj | hj
  · rw [slAt_get hj, slAt_get (h ▸ hj), e j hj]
  · rw [List.getElem?_eq_none hj, List.getElem?_eq_none (h ▸ hj)]
theorem th_ext {l m : List Tng} (h : l.length = m.length) (e : ∀ j, j < l.length → thAt l j = thAt m j) : l = m := by
  refine List.ext_getElem? fun j => ?_
  rcases Nat.lt_or_ge j l.length with hj | hj
  · rw [thAt_get hj, thAt_get (h ▸ hj), e j hj]
  · rw [List.getElem?_eq_none hj, List.getElem?_eq_none (h ▸ hj)]
/-- two states' boxes -/
structure Two (W w : World) (g h : Nat) (a b c : Int) (A : Option Addr) (n ca : Nat) (C : Option Addr) (m cc : Nat) (a' b' c' : Int) (A' : Option Addr) (n' ca' : Nat) (C' : Option Addr) (m' cc' : Nat) : Prop where
  x : Sbx W w g a b c A n ca C m cc
  y : Sbx W w h a' b' c' A' n' ca' C' m' cc'
theorem Two.on {W w w' : World} {g h : Nat} {a b c : Int} {A : Option Addr} {n ca : Nat} {C : Option Addr} {m cc : Nat} {a' b' c' : Int} {A' : Option Addr} {n' ca' : Nat} {C' : Option Addr} {m' cc' : Nat} (k : Two W w g h a b c A n ca C m cc a' b' c' A' n' ca' C' m' cc') (hb : Below w.heap.size w w') : Two W w' g h a b c A n ca C m cc a' b' c' A' n' ca' C' m' cc' := ⟨k.x.on hb, k.y.on hb⟩
theorem Sbx.also {W w : World} (h : Below W.heap.size W w) (a b c : Int) (A : Option Addr) (n ca : Nat) (C : Option Addr) (m cc : Nat) (t : TypeId) : Sbx W (w.alloc (.cells #[.int .i64 a, .int .i64 b, .int .i64 c, .slice A n ca, .slice C m cc] t)) w.heap.size a b c A n ca C m cc := by
  have k := Sbx.new w a b c A n ca C m cc t
  exact ⟨k.c0, k.c1, k.c2, k.c3, k.c4, below_on h k.old, h.size, k.lt⟩
def SaRel {α : Type} (W : World) (g h : Nat) (a b c : Int) (A : Option Addr) (n ca : Nat) (C : Option Addr) (m cc : Nat) (a' b' c' : Int) (A' : Option Addr) (n' ca' : Nat) (C' : Option Addr) (m' cc' : Nat) (N : Nat) (P Q : Nat → α) (f : Nat) (p : Value) (wr : World) : Prop :=
  ∃ i : Nat, f + i = N ∧ p = .int .i64 i ∧ (∀ j, j < i → P j = Q j) ∧ Two W wr g h a b c A n ca C m cc a' b' c' A' n' ca' C' m' cc'
end Go.Proofs.Ytkpbfbmkolgmgaa
namespace Go.Proofs.Ytkpbfbmkolgmgaa
open Go.RowKit

/-! ### slots and things written out -/
def slist (x : Sl) : List Value := [.int .i64 x.c.ty, .int .i64 x.c.th, .int .i64 x.c.ri, .int .i64 x.c.ba, .int .i64 x.up]
def thist (t : Tng) : List Value := [.int .i64 t.ty, .int .i64 t.bits, .int .i64 t.base, .int .i64 t.size, .int .i64 t.used, .int .i64 t.frm, .int .i64 t.badge, .bool t.full, .int .u64 (t.word : Int), .int .u64 (t.d0 : Int), .int .u64 (t.d1 : Int), .int .u64 (t.d2 : Int), .int .u64 (t.d3 : Int)]
def sflat (l : List Sl) : List Value := l.flatMap slist
def tflat (l : List Tng) : List Value := l.flatMap thist
theorem flat_at {α : Type} {f : α → List Value} {k : Nat} (hf : ∀ x, (f x).length = k) : ∀ (l : List α) (j : Nat) (x : α), l[j]? = some x → ∀ c, c < k → (l.flatMap f)[j * k + c]? = (f x)[c]?
  | y :: l, 0, x, h, c, hc => by
    obtain rfl : y = x := by simpa using h
    rw [List.flatMap_cons, List.getElem?_append_left (by rw [hf]; omega), Nat.zero_mul, Nat.zero_add]
  | y :: l, j + 1, x, h, c, hc => by
    have := flat_at hf l j x (by simpa using h) c hc
    have e : (j + 1) * k + c = k + (j * k + c) := by rw [Nat.add_mul]; omega
    rw [List.flatMap_cons, e, List.getElem?_append_right (by rw [hf]; omega), hf, Nat.add_sub_cancel_left, this]
theorem flat_len {α : Type} {f : α → List Value} {k : Nat} (hf : ∀ x, (f x).length = k) : ∀ l : List α, (l.flatMap f).length = l.length * k
  | [] => by simp
  | y :: l => by rw [List.flatMap_cons, List.length_append, hf, flat_len hf l, List.length_cons, Nat.add_mul]; omega
theorem slist_len (x : Sl) : (slist x).length = 5 := rfl
theorem thist_len (t : Tng) : (thist t).length = 13 := rfl
theorem sflat_len (l : List Sl) : (sflat l).length = l.length * 5 := flat_len slist_len l
theorem tflat_len (l : List Tng) : (tflat l).length = l.length * 13 := flat_len thist_len l
theorem sflat_succ {l : List Sl} {i : Nat} (h : i < l.length) : sflat (l.take (i + 1)) = sflat (l.take i) ++ slist (slAt l i) := by
  rw [List.take_add_one, slAt_get h, sflat, List.flatMap_append]
  simp [sflat]
theorem tflat_succ {l : List Tng} {i : Nat} (h : i < l.length) : tflat (l.take (i + 1)) = tflat (l.take i) ++ thist (thAt l i) := by
  rw [List.take_add_one, thAt_get h, tflat, List.flatMap_append]
  simp [tflat]
theorem SlC.of_flat {w : World} {g : Nat} {l : List Sl} (h : ∀ k u, (sflat l)[k]? = some u → w.cell? ⟨g, k, none⟩ = some u) {j : Nat} (hj : j < l.length) : SlC w g (0 + j * 5) (slAt l j) := by
  have e : ∀ c u, c < 5 → (slist (slAt l j))[c]? = some u → w.cell? ⟨g, 0 + j * 5 + c, none⟩ = some u := fun c u hc hu => by
    rw [Nat.zero_add]
    exact h _ _ ((flat_at slist_len l j _ (slAt_get hj) c hc).trans hu)
  exact ⟨e 0 _ (by omega) rfl, e 1 _ (by omega) rfl, e 2 _ (by omega) rfl, e 3 _ (by omega) rfl, e 4 _ (by omega) rfl⟩
theorem ThC.of_flat {w : World} {g : Nat} {l : List Tng} (h : ∀ k u, (tflat l)[k]? = some u → w.cell? ⟨g, k, none⟩ = some u) {j : Nat} (hj : j < l.length) : ThC w g (0 + j * 13) (thAt l j) := by
  have e : ∀ c u, c < 13 → (thist (thAt l j))[c]? = some u → w.cell? ⟨g, 0 + j * 13 + c, none⟩ = some u := fun c u hc hu => by
    rw [Nat.zero_add]
    exact h _ _ ((flat_at thist_len l j _ (thAt_get hj) c hc).trans hu)
  exact ⟨e 0 _ (by omega) rfl, e 1 _ (by omega) rfl, e 2 _ (by omega) rfl, e 3 _ (by omega) rfl, e 4 _ (by omega) rfl, e 5 _ (by omega) rfl, e 6 _ (by omega) rfl, e 7 _ (by omega) rfl, e 8 _ (by omega) rfl, e 9 _ (by omega) rfl, e 10 _ (by omega) rfl, e 11 _ (by omega) rfl, e 12 _ (by omega) rfl⟩
/-! ### what ownOf has made -/
/-- the parameter's box in g, the result's in q (zeros), the new state's in h; what was ahead of V but for h is as it was -/
structure Ow (W V w : World) (g q h : Nat) (a b c : Int) (A : Option Addr) (n ca : Nat) (C : Option Addr) (m cc : Nat) (v u : Value) : Prop where
  par : Sbx W w g a b c A n ca C m cc
  q0 : w.cell? ⟨q, 0, none⟩ = some (.int .i64 0)
  q1 : w.cell? ⟨q, 1, none⟩ = some (.int .i64 0)
  q2 : w.cell? ⟨q, 2, none⟩ = some (.int .i64 0)
  q3 : w.cell? ⟨q, 3, none⟩ = some (.slice none 0 0)
  q4 : w.cell? ⟨q, 4, none⟩ = some (.slice none 0 0)
  qf : ∀ k, w.frozen? ⟨q, k, none⟩ = false
  h0 : w.cell? ⟨h, 0, none⟩ = some (.int .i64 a)
  h1 : w.cell? ⟨h, 1, none⟩ = some (.int .i64 b)
  h2 : w.cell? ⟨h, 2, none⟩ = some (.int .i64 c)
  h3 : w.cell? ⟨h, 3, none⟩ = some v
  h4 : w.cell? ⟨h, 4, none⟩ = some u
  hf : ∀ k, w.frozen? ⟨h, k, none⟩ = false
  gh : g < h
  qh : q < h
  hV : h < V.heap.size
  stay : ∀ k, k < V.heap.size → k ≠ h → w.heap[k]? = V.heap[k]?
  size : V.heap.size ≤ w.heap.size
section
variable {W V w w' : World} {g q h : Nat} {a b c : Int} {A : Option Addr} {n ca : Nat} {C : Option Addr} {m cc : Nat} {v u x : Value}
theorem Ow.on (k : Ow W V w g q h a b c A n ca C m cc v u) (hb : Below w.heap.size w w') : Ow W V w' g q h a b c A n ca C m cc v u := by
  have lh : h < w.heap.size := Nat.lt_of_lt_of_le k.hV k.size
  have lq : q < w.heap.size := Nat.lt_trans k.qh lh
  have eh : ∀ j, w'.cell? ⟨h, j, none⟩ = w.cell? ⟨h, j, none⟩ := fun j => hb.cell (p := ⟨h, j, none⟩) lh
  have eq : ∀ j, w'.cell? ⟨q, j, none⟩ = w.cell? ⟨q, j, none⟩ := fun j => hb.cell (p := ⟨q, j, none⟩) lq
  exact ⟨k.par.on hb, (eq _).trans k.q0, (eq _).trans k.q1, (eq _).trans k.q2, (eq _).trans k.q3, (eq _).trans k.q4, fun j => by rw [World.frozen?_of_block (w := w) (a := ⟨q, j, none⟩) (hb.block _ lq)]; exact k.qf j,
    (eh _).trans k.h0, (eh _).trans k.h1, (eh _).trans k.h2, (eh _).trans k.h3, (eh _).trans k.h4, fun j => by rw [World.frozen?_of_block (w := w) (a := ⟨h, j, none⟩) (hb.block _ lh)]; exact k.hf j, k.gh, k.qh, k.hV,
    fun j h1 h2 => (hb.block j (Nat.lt_of_lt_of_le h1 k.size)).trans (k.stay j h1 h2), Nat.le_trans k.size hb.size⟩
theorem Ow.grown {row : Option Nat} (k : Ow W V w g q h a b c A n ca C m cc v u) (hg : w.grownBy w' row) (hr : ∀ j, row = some j → V.heap.size ≤ j) : Ow W V w' g q h a b c A n ca C m cc v u := by
  have lh : h < w.heap.size := Nat.lt_of_lt_of_le k.hV k.size
  have lq : q < w.heap.size := Nat.lt_trans k.qh lh
  have bl : ∀ j, j < V.heap.size → w'.heap[j]? = w.heap[j]? := fun j hj => hg.block j (Nat.lt_of_lt_of_le hj k.size) (fun e => by have := hr j e.symm; omega)
  have eh : ∀ j, w'.cell? ⟨h, j, none⟩ = w.cell? ⟨h, j, none⟩ := fun j => World.cell?_of_block (a := ⟨h, j, none⟩) (bl h k.hV)
  have eq : ∀ j, w'.cell? ⟨q, j, none⟩ = w.cell? ⟨q, j, none⟩ := fun j => World.cell?_of_block (a := ⟨q, j, none⟩) (bl q (Nat.lt_trans k.qh k.hV))
  have eg : ∀ j, w'.cell? ⟨g, j, none⟩ = w.cell? ⟨g, j, none⟩ := fun j => World.cell?_of_block (a := ⟨g, j, none⟩) (bl g (Nat.lt_trans k.gh k.hV))
  have hW : W.heap.size ≤ V.heap.size := Nat.le_trans k.par.base (Nat.le_of_lt (Nat.lt_trans k.gh k.hV))
  refine ⟨⟨(eg _).trans k.par.c0, (eg _).trans k.par.c1, (eg _).trans k.par.c2, (eg _).trans k.par.c3, (eg _).trans k.par.c4, k.par.old.grown hg k.par.old.size (fun j e => Nat.le_trans hW (hr j e)), k.par.base, Nat.lt_of_lt_of_le k.par.lt hg.size⟩,
    (eq _).trans k.q0, (eq _).trans k.q1, (eq _).trans k.q2, (eq _).trans k.q3, (eq _).trans k.q4, fun j => by rw [World.frozen?_of_block (w := w) (a := ⟨q, j, none⟩) (bl q (Nat.lt_trans k.qh k.hV))]; exact k.qf j,
    (eh _).trans k.h0, (eh _).trans k.h1, (eh _).trans k.h2, (eh _).trans k.h3, (eh _).trans k.h4, fun j => by rw [World.frozen?_of_block (w := w) (a := ⟨h, j, none⟩) (bl h k.hV)]; exact k.hf j, k.gh, k.qh, k.hV,
    fun j h1 h2 => (bl j h1).trans (k.stay j h1 h2), Nat.le_trans k.size hg.size⟩
theorem Ow.set (k : Ow W V w g q h a b c A n ca C m cc v u) (i : Nat) (x : Value) (hi : i = 3 ∨ i = 4) : Ow W V (w.setCell ⟨h, i, none⟩ x) g q h a b c A n ca C m cc (if i = 3 then x else v) (if i = 4 then x else u) := by
  have hn : ∀ d, d < h → ∀ j, (w.setCell ⟨h, i, none⟩ x).cell? ⟨d, j, none⟩ = w.cell? ⟨d, j, none⟩ := fun d hd j => World.cell?_setCell_other _ _ _ _ (fun q => by injection q with q; omega)
  have hh : ∀ j, j ≠ i → (w.setCell ⟨h, i, none⟩ x).cell? ⟨h, j, none⟩ = w.cell? ⟨h, j, none⟩ := fun j hj => World.cell?_setCell_other _ _ _ _ (fun q => by injection q with _ q; exact hj q.symm)
  have hs : ∀ y, w.cell? ⟨h, i, none⟩ = some y → (w.setCell ⟨h, i, none⟩ x).cell? ⟨h, i, none⟩ = some x := fun y hy => World.cell?_setCell_same _ _ _ hy
  have hW : W.heap.size ≤ h := Nat.le_trans k.par.base (Nat.le_of_lt k.gh)
  refine ⟨⟨(hn g k.gh _).trans k.par.c0, (hn g k.gh _).trans k.par.c1, (hn g k.gh _).trans k.par.c2, (hn g k.gh _).trans k.par.c3, (hn g k.gh _).trans k.par.c4, k.par.old.setCell (p := ⟨h, i, none⟩) hW _, k.par.base, by simpa [World.setCell] using k.par.lt⟩,
    (hn q k.qh _).trans k.q0, (hn q k.qh _).trans k.q1, (hn q k.qh _).trans k.q2, (hn q k.qh _).trans k.q3, (hn q k.qh _).trans k.q4, fun j => by rw [World.frozen?_setCell]; exact k.qf j,
    (hh 0 (by omega)).trans k.h0, (hh 1 (by omega)).trans k.h1, (hh 2 (by omega)).trans k.h2, ?_, ?_, fun j => by rw [World.frozen?_setCell]; exact k.hf j, k.gh, k.qh, k.hV,
    fun j h1 h2 => (Below.heap_setCell _ _ _ _ (by show j ≠ h; omega)).trans (k.stay j h1 h2), by simpa [World.setCell] using k.size⟩
  · by_cases e : i = 3
    · subst e; rw [if_pos rfl]; exact hs _ k.h3
    · rw [if_neg e]; exact (hh 3 (by omega)).trans k.h3
  · by_cases e : i = 4
    · subst e; rw [if_pos rfl]; exact hs _ k.h4
    · rw [if_neg e]; exact (hh 4 (by omega)).trans k.h4
end
theorem Ow.new (w : World) (a b c : Int) (A : Option Addr) (n ca : Nat) (C : Option Addr) (m cc : Nat) (t1 t2 t3 : TypeId) :
    let o1 : Obj := .cells #[.int .i64 a, .int .i64 b, .int .i64 c, .slice A n ca, .slice C m cc] t1
    let o2 : Obj := .cells #[.int .i64 0, .int .i64 0, .int .i64 0, .slice none 0 0, .slice none 0 0] t2
    let o3 : Obj := .cells #[.int .i64 a, .int .i64 b, .int .i64 c, .slice none 0 0, .slice none 0 0] t3
    Ow w (((w.alloc o1).alloc o2).alloc o3) (((w.alloc o1).alloc o2).alloc o3) w.heap.size (w.heap.size + 1) (w.heap.size + 1 + 1) a b c A n ca C m cc (.slice none 0 0) (.slice none 0 0) := by
  intro o1 o2 o3
  have k1 := Sbx.new w a b c A n ca C m cc t1
  have g2 := heap_alloc_new (w.alloc o1) o2
  have g3 := heap_alloc_new ((w.alloc o1).alloc o2) o3
  have b3 := below_alloc ((w.alloc o1).alloc o2) o3
  have z1 : (w.alloc o1).heap.size = w.heap.size + 1 := by simp
  have z2 : ((w.alloc o1).alloc o2).heap.size = w.heap.size + 1 + 1 := by simp
  have eq : ∀ j, (((w.alloc o1).alloc o2).alloc o3).cell? ⟨w.heap.size + 1, j, none⟩ = ((w.alloc o1).alloc o2).cell? ⟨w.heap.size + 1, j, none⟩ := fun j => b3.cell (p := ⟨_, j, none⟩) (by rw [z2]; show w.heap.size + 1 < _; omega)
  rw [z1] at g2
  rw [z2] at g3
  constructor
  case par => exact (k1.on (below_alloc _ _)).on b3
  case qf => exact fun k => by rw [World.frozen?_of_block (w := (w.alloc o1).alloc o2) (a := ⟨w.heap.size + 1, k, none⟩) (b3.block _ (by rw [z2]; show w.heap.size + 1 < _; omega))]; exact frozen_of_row _ _ k _ _ g2
  case hf => exact fun k => frozen_of_row _ _ k _ _ g3
  case gh => omega
  case qh => omega
  case hV => rw [show (((w.alloc o1).alloc o2).alloc o3).heap.size = w.heap.size + 1 + 1 + 1 by simp]; omega
  case stay => exact fun _ _ _ => rfl
  case size => exact Nat.le_refl _
  case h0 => rw [cell_of_row _ _ _ _ _ _ g3]; rfl
  case h1 => rw [cell_of_row _ _ _ _ _ _ g3]; rfl
  case h2 => rw [cell_of_row _ _ _ _ _ _ g3]; rfl
  case h3 => rw [cell_of_row _ _ _ _ _ _ g3]; rfl
  case h4 => rw [cell_of_row _ _ _ _ _ _ g3]; rfl
  all_goals (rw [eq, cell_of_row _ _ _ _ _ _ g2]; rfl)
def put5 (w : World) (q : Nat) (v0 v1 v2 v3 v4 : Value) : World := ((((w.setCell ⟨q, 0, none⟩ v0).setCell ⟨q, 1, none⟩ v1).setCell ⟨q, 2, none⟩ v2).setCell ⟨q, 3, none⟩ v3).setCell ⟨q, 4, none⟩ v4
theorem put5_heap (w : World) (q : Nat) (v0 v1 v2 v3 v4 : Value) {k : Nat} (h : k ≠ q) : (put5 w q v0 v1 v2 v3 v4).heap[k]? = w.heap[k]? := by
  unfold put5
  iterate 5 refine (Below.heap_setCell _ _ _ _ (by exact h)).trans ?_
  rfl
theorem put5_size (w : World) (q : Nat) (v0 v1 v2 v3 v4 : Value) : (put5 w q v0 v1 v2 v3 v4).heap.size = w.heap.size := by simp [put5, World.setCell]
theorem put5_below {W w : World} (hb : Below W.heap.size W w) {q : Nat} (hq : W.heap.size ≤ q) (v0 v1 v2 v3 v4 : Value) : Below W.heap.size W (put5 w q v0 v1 v2 v3 v4) :=
  ((((hb.setCell (p := ⟨q, 0, none⟩) hq _).setCell (p := ⟨q, 1, none⟩) hq _).setCell (p := ⟨q, 2, none⟩) hq _).setCell (p := ⟨q, 3, none⟩) hq _).setCell (p := ⟨q, 4, none⟩) hq _
theorem put5_cells {w : World} {q : Nat} {u0 u1 u2 u3 u4 : Value} (h0 : w.cell? ⟨q, 0, none⟩ = some u0) (h1 : w.cell? ⟨q, 1, none⟩ = some u1) (h2 : w.cell? ⟨q, 2, none⟩ = some u2) (h3 : w.cell? ⟨q, 3, none⟩ = some u3) (h4 : w.cell? ⟨q, 4, none⟩ = some u4) (v0 v1 v2 v3 v4 : Value) :
    (put5 w q v0 v1 v2 v3 v4).cell? ⟨q, 0, none⟩ = some v0 ∧ (put5 w q v0 v1 v2 v3 v4).cell? ⟨q, 1, none⟩ = some v1 ∧ (put5 w q v0 v1 v2 v3 v4).cell? ⟨q, 2, none⟩ = some v2 ∧ (put5 w q v0 v1 v2 v3 v4).cell? ⟨q, 3, none⟩ = some v3 ∧ (put5 w q v0 v1 v2 v3 v4).cell? ⟨q, 4, none⟩ = some v4 := by
  have o : ∀ (z : World) (i j : Nat) (x : Value), j ≠ i → (z.setCell ⟨q, i, none⟩ x).cell? ⟨q, j, none⟩ = z.cell? ⟨q, j, none⟩ := fun z i j x h => World.cell?_setCell_other _ _ _ _ (fun e => by injection e with _ e; exact h e.symm)
  have s : ∀ (z : World) (i : Nat) (x y : Value), z.cell? ⟨q, i, none⟩ = some y → (z.setCell ⟨q, i, none⟩ x).cell? ⟨q, i, none⟩ = some x := fun z i x y h => World.cell?_setCell_same _ _ _ h
  unfold put5
  refine ⟨?_, ?_, ?_, ?_, ?_⟩
  · rw [o _ 4 0 _ (by omega), o _ 3 0 _ (by omega), o _ 2 0 _ (by omega), o _ 1 0 _ (by omega)]; exact s _ _ _ _ h0
  · rw [o _ 4 1 _ (by omega), o _ 3 1 _ (by omega), o _ 2 1 _ (by omega)]; exact s _ _ _ _ ((o _ 0 1 _ (by omega)).trans h1)
  · rw [o _ 4 2 _ (by omega), o _ 3 2 _ (by omega)]; exact s _ _ _ _ (((o _ 1 2 _ (by omega)).trans (o _ 0 2 _ (by omega))).trans h2)
  · rw [o _ 4 3 _ (by omega)]; exact s _ _ _ _ ((((o _ 2 3 _ (by omega)).trans (o _ 1 3 _ (by omega))).trans (o _ 0 3 _ (by omega))).trans h3)
  · exact s _ _ _ _ (((((o _ 3 4 _ (by omega)).trans (o _ 2 4 _ (by omega))).trans (o _ 1 4 _ (by omega))).trans (o _ 0 4 _ (by omega))).trans h4)
theorem ownsRow_on {w w' : World} {B : Nat} {T : TypeId} {k n : Nat} {v : Value} {xs : List Value} (h : w.ownsRow B T k v n xs) (hb : Below w.heap.size w w') : w'.ownsRow B T k v n xs :=
  h.kept (row := none) ⟨hb.os, hb.tape, hb.output, hb.size, fun j hj _ => hb.block j hj⟩ (by cases v.ownBlock <;> simp)
/-- the state that is handed back -/
def OwnF (w w' : World) (e : Ending) (a b c : Int) (n m : Nat) (s : St) : Prop := ∃ A' ca' C' cc', e = .returned (.agg #[.int .i64 a, .int .i64 b, .int .i64 c, .slice A' n ca', .slice C' m cc']) ∧ StAt w' s A' C' ∧ Below w.heap.size w w'
end Go.Proofs.Ytkpbfbmkolgmgaa
namespace Go.Proofs.Ytkpbfbmkolgmgaa
open Go.RowKit

/-- a state of the call's own: its lists are new, and may be written -/
structure Fsh (W w : World) (s : St) (A C : Option Addr) : Prop where
  lies : StAt w s A C
  sl : 0 < s.sl.length → ∃ b, A = some ⟨b, 0, none⟩ ∧ W.heap.size ≤ b ∧ b < w.heap.size ∧ ∀ k, w.frozen? ⟨b, k, none⟩ = false
  th : 0 < s.th.length → ∃ b, C = some ⟨b, 0, none⟩ ∧ W.heap.size ≤ b ∧ b < w.heap.size ∧ ∀ k, w.frozen? ⟨b, k, none⟩ = false
  ne : 0 < s.sl.length → 0 < s.th.length → A ≠ C
/-- a new state, or the error -/
def NewF (w w' : World) (e : Ending) : Option St → Prop
  | none => ∃ A ca C cc, e = .returned (.tuple #[.agg #[.int .i64 0, .int .i64 0, .int .i64 0, .slice A 0 ca, .slice C 0 cc], .int .i64 1]) ∧ Below w.heap.size w w'
  | some s => ∃ A ca C cc, e = .returned (.tuple #[.agg #[.int .i64 s.g.t, .int .i64 s.g.s, .int .i64 s.g.k, .slice A s.sl.length ca, .slice C s.th.length cc], .int .i64 0]) ∧ s.sl.length ≤ ca ∧ s.th.length ≤ cc ∧ Fsh w w' s A C ∧ Below w.heap.size w w'
/-- another one, alike -/
def CloneF (w w' : World) (e : Ending) (a b c : Int) (n m : Nat) (s : St) : Prop := ∃ A ca C cc, e = .returned (.agg #[.int .i64 a, .int .i64 b, .int .i64 c, .slice A n ca, .slice C m cc]) ∧ n ≤ ca ∧ m ≤ cc ∧ Fsh w w' s A C ∧ Below w.heap.size w w'
def ForestF (w w' : World) (e : Ending) (L : List Int) : Prop := ∃ B cb, e = .returned (.agg #[.slice B L.length cb]) ∧ L.length ≤ cb ∧ IntsAt w' w'.heap.size B L ∧ Below w.heap.size w w'
/-- how a state is handed over -/
structure StH (w : World) (s : St) (a b c : Int) (A : Option Addr) (n ca : Nat) (C : Option Addr) (m cc : Nat) : Prop where
  lies : StAt w s A C
  hg : s.g = ⟨a, b, c⟩
  hn : n = s.sl.length
  hm : m = s.th.length
  few : n ≤ 1000
  fewm : m ≤ 1000
  hca : n ≤ ca
  hcc : m ≤ cc
theorem StH.on {w w' : World} {s : St} {a b c : Int} {A : Option Addr} {n ca : Nat} {C : Option Addr} {m cc : Nat} (h : StH w s a b c A n ca C m cc) (hb : Below w.heap.size w w') : StH w' s a b c A n ca C m cc := ⟨h.lies.on hb, h.hg, h.hn, h.hm, h.few, h.fewm, h.hca, h.hcc⟩
/-! ### heavy -/
/-! ### awake -/
def s64 : St := snewS ⟨2, 32, 16⟩ 64
theorem s64_new : snew ⟨2, 32, 16⟩ 64 = some s64 := by
  rw [snew, if_pos ⟨by decide +kernel, by decide +kernel⟩]
  rfl
theorem s64_good : sgood s64 = true := snew_good (by decide +kernel) (by decide +kernel)
theorem s64_slots : s64.sl.length = 32 := by decide +kernel
theorem s64_things : s64.th.length = 16 := by decide +kernel
theorem s64_geo : s64.g = ⟨2, 32, 16⟩ := rfl
def nonempty (l : List Sl) (i : Nat) : Bool := !(slAt l i).c.non
theorem s64_full : (pick (nonempty s64.sl) 32).length = 3 := by decide +kernel
def AwRel (V : World) (n : Nat) (l : List Sl) (f : Nat) (p q : Value) (wr : World) : Prop :=
  ∃ i : Nat, f + i = n ∧ p = .int .i64 ((pick (nonempty l) i).length : Int) ∧ q = .int .i64 i ∧ Below V.heap.size V wr
end Go.Proofs.Ytkpbfbmkolgmgaa
namespace Go.Proofs.Ytkpbfbmkolgmgaa
open Go.ChangeShapes Go.WideShapes Go.ChangeAt Go.RowKit Go.Deep

instance : Inhabited Sl := ⟨.zero⟩
instance : Inhabited Tng := ⟨.zero⟩
theorem laid_out : laidOutB Try.prog = true := by kernel_rfl
theorem cellsI : Try.prog.cellsOf 3 = 1 := by kernel_rfl
theorem cellsB : Try.prog.cellsOf 4 = 1 := by kernel_rfl
theorem cellsU : Try.prog.cellsOf 29 = 1 := by kernel_rfl
theorem cellsD : Try.prog.cellsOf 64 = 4 := by kernel_rfl
theorem cellsC : Try.prog.cellsOf 46 = 4 := by kernel_rfl
theorem cellsS : Try.prog.cellsOf 48 = 5 := by kernel_rfl
theorem cellsT : Try.prog.cellsOf 66 = 13 := by kernel_rfl
theorem cellsG : Try.prog.cellsOf 23 = 3 := by kernel_rfl
theorem cellsZ : Try.prog.cellsOf 27 = 5 := by kernel_rfl
theorem cellsSs : Try.prog.cellsOf 24 = 1 := by kernel_rfl
theorem cellsTs : Try.prog.cellsOf 25 = 1 := by kernel_rfl
section
variable {H : Type} {enc : TypeId × Value → H} {W : World} {base : Nat} {sp : Nat → Bool} {hd : Bool} {n : Nat} {x : DataW H × List MemPlace}
set_option maxRecDepth 100000 in
theorem int_of {c : Value} (h : DataW.trod enc Try.prog W base sp hd n 3 [c] = some x) : ∃ a : Int, c = .int .i64 a := by
  obtain ⟨a, e, _⟩ := DataW.trod_int Try.underlying3 h
  injection e with e
  exact ⟨a, e⟩
set_option maxRecDepth 100000 in
theorem uint_of {c : Value} (h : DataW.trod enc Try.prog W base sp hd n 29 [c] = some x) : ∃ q : Nat, c = .int .u64 (q : Int) := by
  obtain ⟨z, e, _, hw⟩ := DataW.trod_int Try.underlying29 h
  injection e with e
  have g : IntKind.u64.min ≤ z ∧ z ≤ IntKind.u64.max := by simpa [Lit.wf] using hw
  have e1 : IntKind.u64.min = 0 := by decide
  rw [e1] at g
  exact ⟨z.toNat, by rw [e, Int.toNat_of_nonneg g.1]⟩
set_option maxRecDepth 100000 in
theorem cap_of {cs : List Value} (h : DataW.trod enc Try.prog W base sp hd n 46 cs = some x) : ∃ c : Cp, cs = [.int .i64 c.ty, .int .i64 c.th, .int .i64 c.ri, .int .i64 c.ba] := by
  obtain ⟨xs, m, _, _, hlen, hxs, hf⟩ := DataW.trod_struct Try.underlying46 h
  rw [cellsC] at hlen
  match cs, hlen with
  | [c0, c1, c2, c3], _ =>
    match xs, hxs with
    | [y0, y1, y2, y3], _ =>
      have f0 : DataW.trod enc Try.prog W base sp hd m 3 (List.take (Try.prog.cellsOf 3) [c0, c1, c2, c3]) = some y0 := hf 0 _ rfl
      rw [cellsI] at f0
      have k0 : DataW.trod enc Try.prog W base sp hd m 3 [c0] = some y0 := f0
      obtain ⟨a0, rfl⟩ := int_of k0
      have f1 : DataW.trod enc Try.prog W base sp hd m 3 (List.take (Try.prog.cellsOf 3) [c1, c2, c3]) = some y1 := hf 1 _ rfl
      rw [cellsI] at f1
      have k1 : DataW.trod enc Try.prog W base sp hd m 3 [c1] = some y1 := f1
      obtain ⟨a1, rfl⟩ := int_of k1
      have f2 : DataW.trod enc Try.prog W base sp hd m 3 (List.take (Try.prog.cellsOf 3) [c2, c3]) = some y2 := hf 2 _ rfl
      rw [cellsI] at f2
      have k2 : DataW.trod enc Try.prog W base sp hd m 3 [c2] = some y2 := f2
      obtain ⟨a2, rfl⟩ := int_of k2
      have f3 : DataW.trod enc Try.prog W base sp hd m 3 (List.take (Try.prog.cellsOf 3) [c3]) = some y3 := hf 3 _ rfl
      rw [cellsI] at f3
      have k3 : DataW.trod enc Try.prog W base sp hd m 3 [c3] = some y3 := f3
      obtain ⟨a3, rfl⟩ := int_of k3
      exact ⟨⟨a0, a1, a2, a3⟩, rfl⟩
set_option maxRecDepth 100000 in
theorem geo_of {cs : List Value} (h : DataW.trod enc Try.prog W base sp hd n 23 cs = some x) : ∃ g : Gd, cs = [.int .i64 g.t, .int .i64 g.s, .int .i64 g.k] := by
  obtain ⟨xs, m, _, _, hlen, hxs, hf⟩ := DataW.trod_struct Try.underlying23 h
  rw [cellsG] at hlen
  match cs, hlen with
  | [c0, c1, c2], _ =>
    match xs, hxs with
    | [y0, y1, y2], _ =>
      have f0 : DataW.trod enc Try.prog W base sp hd m 3 (List.take (Try.prog.cellsOf 3) [c0, c1, c2]) = some y0 := hf 0 _ rfl
      rw [cellsI] at f0
      have k0 : DataW.trod enc Try.prog W base sp hd m 3 [c0] = some y0 := f0
      obtain ⟨a0, rfl⟩ := int_of k0
      have f1 : DataW.trod enc Try.prog W base sp hd m 3 (List.take (Try.prog.cellsOf 3) [c1, c2]) = some y1 := hf 1 _ rfl
      rw [cellsI] at f1
      have k1 : DataW.trod enc Try.prog W base sp hd m 3 [c1] = some y1 := f1
      obtain ⟨a1, rfl⟩ := int_of k1
      have f2 : DataW.trod enc Try.prog W base sp hd m 3 (List.take (Try.prog.cellsOf 3) [c2]) = some y2 := hf 2 _ rfl
      rw [cellsI] at f2
      have k2 : DataW.trod enc Try.prog W base sp hd m 3 [c2] = some y2 := f2
      obtain ⟨a2, rfl⟩ := int_of k2
      exact ⟨⟨a0, a1, a2⟩, rfl⟩
set_option maxRecDepth 100000 in
theorem slot_of {cs : List Value} (h : DataW.trod enc Try.prog W base sp hd n 48 cs = some x) : ∃ x : Sl, cs = slist x := by
  obtain ⟨xs, m, _, _, hlen, hxs, hf⟩ := DataW.trod_struct Try.underlying48 h
  rw [cellsS] at hlen
  match cs, hlen with
  | [c0, c1, c2, c3, c4], _ =>
    match xs, hxs with
    | [y0, y1], _ =>
      have f0 : DataW.trod enc Try.prog W base sp hd m 46 (List.take (Try.prog.cellsOf 46) [c0, c1, c2, c3, c4]) = some y0 := hf 0 _ rfl
      rw [cellsC] at f0
      have k0 : DataW.trod enc Try.prog W base sp hd m 46 [c0, c1, c2, c3] = some y0 := f0
      obtain ⟨p, hp⟩ := cap_of k0
      injection hp with p0 hp
      injection hp with p1 hp
      injection hp with p2 hp
      injection hp with p3 hp
      subst p0 p1 p2 p3
      have f1 : DataW.trod enc Try.prog W base sp hd m 3 (List.take (Try.prog.cellsOf 3) [c4]) = some y1 := hf 1 _ rfl
      rw [cellsI] at f1
      have k1 : DataW.trod enc Try.prog W base sp hd m 3 [c4] = some y1 := f1
      obtain ⟨a1, rfl⟩ := int_of k1
      exact ⟨⟨p, a1⟩, rfl⟩
set_option maxRecDepth 100000 in
theorem fourw_of {c0 c1 c2 c3 : Value} (h : DataW.trod enc Try.prog W base sp hd n 64 [c0, c1, c2, c3] = some x) : ∃ a b c d : Nat, [c0, c1, c2, c3] = [.int .u64 (a : Int), .int .u64 (b : Int), .int .u64 (c : Int), .int .u64 (d : Int)] := by
  obtain ⟨xs, m, _, _, hlen, hxs, hf⟩ := DataW.trod_array Try.underlying64 h
  match xs, hxs with
  | [y0, y1, y2, y3], _ =>
    have f0 : DataW.trod enc Try.prog W base sp hd m 29 (List.take (Try.prog.cellsOf 29) (List.drop (0 * Try.prog.cellsOf 29) [c0, c1, c2, c3])) = some y0 := hf 0 (by decide)
    have f1 : DataW.trod enc Try.prog W base sp hd m 29 (List.take (Try.prog.cellsOf 29) (List.drop (1 * Try.prog.cellsOf 29) [c0, c1, c2, c3])) = some y1 := hf 1 (by decide)
    have f2 : DataW.trod enc Try.prog W base sp hd m 29 (List.take (Try.prog.cellsOf 29) (List.drop (2 * Try.prog.cellsOf 29) [c0, c1, c2, c3])) = some y2 := hf 2 (by decide)
    have f3 : DataW.trod enc Try.prog W base sp hd m 29 (List.take (Try.prog.cellsOf 29) (List.drop (3 * Try.prog.cellsOf 29) [c0, c1, c2, c3])) = some y3 := hf 3 (by decide)
    rw [cellsU] at f0 f1 f2 f3
    obtain ⟨a, rfl⟩ := uint_of (show DataW.trod enc Try.prog W base sp hd m 29 [c0] = some y0 from f0)
    obtain ⟨b, rfl⟩ := uint_of (show DataW.trod enc Try.prog W base sp hd m 29 [c1] = some y1 from f1)
    obtain ⟨c, rfl⟩ := uint_of (show DataW.trod enc Try.prog W base sp hd m 29 [c2] = some y2 from f2)
    obtain ⟨d, rfl⟩ := uint_of (show DataW.trod enc Try.prog W base sp hd m 29 [c3] = some y3 from f3)
    exact ⟨a, b, c, d, rfl⟩
set_option maxRecDepth 100000 in
theorem thing_of {cs : List Value} (h : DataW.trod enc Try.prog W base sp hd n 66 cs = some x) : ∃ t : Tng, cs = thist t := by
  obtain ⟨xs, m, _, _, hlen, hxs, hf⟩ := DataW.trod_struct Try.underlying66 h
  rw [cellsT] at hlen
  match cs, hlen with
  | [c0, c1, c2, c3, c4, c5, c6, c7, c8, c9, c10, c11, c12], _ =>
    match xs, hxs with
    | [y0, y1, y2, y3, y4, y5, y6, y7, y8, y9], _ =>
      have f0 : DataW.trod enc Try.prog W base sp hd m 3 (List.take (Try.prog.cellsOf 3) [c0, c1, c2, c3, c4, c5, c6, c7, c8, c9, c10, c11, c12]) = some y0 := hf 0 _ rfl
      rw [cellsI] at f0
      have k0 : DataW.trod enc Try.prog W base sp hd m 3 [c0] = some y0 := f0
      obtain ⟨a0, rfl⟩ := int_of k0
      have f1 : DataW.trod enc Try.prog W base sp hd m 3 (List.take (Try.prog.cellsOf 3) [c1, c2, c3, c4, c5, c6, c7, c8, c9, c10, c11, c12]) = some y1 := hf 1 _ rfl
      rw [cellsI] at f1
      have k1 : DataW.trod enc Try.prog W base sp hd m 3 [c1] = some y1 := f1
      obtain ⟨a1, rfl⟩ := int_of k1
      have f2 : DataW.trod enc Try.prog W base sp hd m 3 (List.take (Try.prog.cellsOf 3) [c2, c3, c4, c5, c6, c7, c8, c9, c10, c11, c12]) = some y2 := hf 2 _ rfl
      rw [cellsI] at f2
      have k2 : DataW.trod enc Try.prog W base sp hd m 3 [c2] = some y2 := f2
      obtain ⟨a2, rfl⟩ := int_of k2
      have f3 : DataW.trod enc Try.prog W base sp hd m 3 (List.take (Try.prog.cellsOf 3) [c3, c4, c5, c6, c7, c8, c9, c10, c11, c12]) = some y3 := hf 3 _ rfl
      rw [cellsI] at f3
      have k3 : DataW.trod enc Try.prog W base sp hd m 3 [c3] = some y3 := f3
      obtain ⟨a3, rfl⟩ := int_of k3
      have f4 : DataW.trod enc Try.prog W base sp hd m 3 (List.take (Try.prog.cellsOf 3) [c4, c5, c6, c7, c8, c9, c10, c11, c12]) = some y4 := hf 4 _ rfl
      rw [cellsI] at f4
      have k4 : DataW.trod enc Try.prog W base sp hd m 3 [c4] = some y4 := f4
      obtain ⟨a4, rfl⟩ := int_of k4
      have f5 : DataW.trod enc Try.prog W base sp hd m 3 (List.take (Try.prog.cellsOf 3) [c5, c6, c7, c8, c9, c10, c11, c12]) = some y5 := hf 5 _ rfl
      rw [cellsI] at f5
      have k5 : DataW.trod enc Try.prog W base sp hd m 3 [c5] = some y5 := f5
      obtain ⟨a5, rfl⟩ := int_of k5
      have f6 : DataW.trod enc Try.prog W base sp hd m 3 (List.take (Try.prog.cellsOf 3) [c6, c7, c8, c9, c10, c11, c12]) = some y6 := hf 6 _ rfl
      rw [cellsI] at f6
      have k6 : DataW.trod enc Try.prog W base sp hd m 3 [c6] = some y6 := f6
      obtain ⟨a6, rfl⟩ := int_of k6
      have f7 : DataW.trod enc Try.prog W base sp hd m 4 (List.take (Try.prog.cellsOf 4) [c7, c8, c9, c10, c11, c12]) = some y7 := hf 7 _ rfl
      rw [cellsB] at f7
      have k7 : DataW.trod enc Try.prog W base sp hd m 4 [c7] = some y7 := f7
      obtain ⟨a7, e7, _⟩ := DataW.trod_bool Try.underlying4 k7
      injection e7 with e7
      subst e7
      have f8 : DataW.trod enc Try.prog W base sp hd m 29 (List.take (Try.prog.cellsOf 29) [c8, c9, c10, c11, c12]) = some y8 := hf 8 _ rfl
      rw [cellsU] at f8
      have k8 : DataW.trod enc Try.prog W base sp hd m 29 [c8] = some y8 := f8
      obtain ⟨a8, rfl⟩ := uint_of k8
      have f9 : DataW.trod enc Try.prog W base sp hd m 64 (List.take (Try.prog.cellsOf 64) [c9, c10, c11, c12]) = some y9 := hf 9 _ rfl
      rw [cellsD] at f9
      have k9 : DataW.trod enc Try.prog W base sp hd m 64 [c9, c10, c11, c12] = some y9 := f9
      obtain ⟨d0, d1, d2, d3, hp⟩ := fourw_of k9
      injection hp with p0 hp
      injection hp with p1 hp
      injection hp with p2 hp
      injection hp with p3 hp
      subst p0 p1 p2 p3
      exact ⟨⟨a0, a1, a2, a3, a4, a5, a6, a7, a8, d0, d1, d2, d3⟩, rfl⟩
set_option maxRecDepth 100000 in
theorem slots_of {fuel : Nat} {v : Value} (h : DataW.trod enc Try.prog W 0 sp hd fuel 24 [v] = some x) : ∃ (A : Option Addr) (cap : Nat) (l : List Sl), v = .slice A l.length cap ∧ l.length ≤ cap ∧ l.length ≤ maxLen ∧ SlotsAt W W.heap.size A l := by
  rcases open_slice Try.underlying24 h with ⟨hcs, _⟩ | ⟨a, len, cap, m, k, D, Pl, hcs, _, hl, hm, hmm, _, hx⟩
  · injection hcs with hcs
    exact ⟨none, 0, [], hcs, Nat.le_refl _, Nat.zero_le _, fun h => absurd h (by simp)⟩
  · injection hcs with hcs
    have hlm : len ≤ m := by rw [hmm]; split <;> omega
    obtain ⟨f, hfa⟩ := choose_lt (α := Sl) (p := fun i (c : Sl) => ∀ j, j < 5 → W.cell? ((a.add (i * 5)).add j) = (slist c)[j]?) (fun i (hi : i < len) => by
      obtain ⟨cs', h1, h2⟩ := hx i (by omega)
      rw [cellsS] at h1
      obtain ⟨_, _, hat⟩ := World.cells?_some h1
      obtain ⟨c, rfl⟩ := slot_of h2
      exact ⟨c, fun j hj => hat j hj⟩)
    have hlen : ((List.range len).map f).length = len := by simp
    refine ⟨some a, cap, (List.range len).map f, by rw [hlen]; exact hcs, by rw [hlen]; exact hl, by rw [hlen]; omega, fun h0 => ?_⟩
    rw [hlen] at h0
    obtain ⟨b, o, spot⟩ := a
    have hc0 : W.cell? (((⟨b, o, spot⟩ : Addr).add (0 * 5)).add 0) = some ((.int .i64 (f 0).c.ty)) := hfa 0 h0 0 (by omega)
    have hspot : spot = none := by simpa [Addr.add] using World.cell?_spot hc0
    subst hspot
    have hblt : b < W.heap.size := by
      have := World.block_lt_of_cell? W _ hc0
      simpa [Addr.add] using this
    refine ⟨b, o, rfl, hblt, fun j hj => ?_⟩
    rw [hlen] at hj
    rw [slAt_range f hj]
    have h3 := hfa j hj
    simp only [Addr.add_mid] at h3
    exact ⟨h3 0 (by omega), h3 1 (by omega), h3 2 (by omega), h3 3 (by omega), h3 4 (by omega)⟩
set_option maxRecDepth 100000 in
theorem things_of {fuel : Nat} {v : Value} (h : DataW.trod enc Try.prog W 0 sp hd fuel 25 [v] = some x) : ∃ (A : Option Addr) (cap : Nat) (l : List Tng), v = .slice A l.length cap ∧ l.length ≤ cap ∧ l.length ≤ maxLen ∧ ThingsAt W W.heap.size A l := by
  rcases open_slice Try.underlying25 h with ⟨hcs, _⟩ | ⟨a, len, cap, m, k, D, Pl, hcs, _, hl, hm, hmm, _, hx⟩
  · injection hcs with hcs
    exact ⟨none, 0, [], hcs, Nat.le_refl _, Nat.zero_le _, fun h => absurd h (by simp)⟩
  · injection hcs with hcs
    have hlm : len ≤ m := by rw [hmm]; split <;> omega
    obtain ⟨f, hfa⟩ := choose_lt (α := Tng) (p := fun i (c : Tng) => ∀ j, j < 13 → W.cell? ((a.add (i * 13)).add j) = (thist c)[j]?) (fun i (hi : i < len) => by
      obtain ⟨cs', h1, h2⟩ := hx i (by omega)
      rw [cellsT] at h1
      obtain ⟨_, _, hat⟩ := World.cells?_some h1
      obtain ⟨c, rfl⟩ := thing_of h2
      exact ⟨c, fun j hj => hat j hj⟩)
    have hlen : ((List.range len).map f).length = len := by simp
    refine ⟨some a, cap, (List.range len).map f, by rw [hlen]; exact hcs, by rw [hlen]; exact hl, by rw [hlen]; omega, fun h0 => ?_⟩
    rw [hlen] at h0
    obtain ⟨b, o, spot⟩ := a
    have hc0 : W.cell? (((⟨b, o, spot⟩ : Addr).add (0 * 13)).add 0) = some ((.int .i64 (f 0).ty)) := hfa 0 h0 0 (by omega)
    have hspot : spot = none := by simpa [Addr.add] using World.cell?_spot hc0
    subst hspot
    have hblt : b < W.heap.size := by
      have := World.block_lt_of_cell? W _ hc0
      simpa [Addr.add] using this
    refine ⟨b, o, rfl, hblt, fun j hj => ?_⟩
    rw [hlen] at hj
    rw [thAt_range f hj]
    have h3 := hfa j hj
    simp only [Addr.add_mid] at h3
    exact ⟨h3 0 (by omega), h3 1 (by omega), h3 2 (by omega), h3 3 (by omega), h3 4 (by omega), h3 5 (by omega), h3 6 (by omega), h3 7 (by omega), h3 8 (by omega), h3 9 (by omega), h3 10 (by omega), h3 11 (by omega), h3 12 (by omega)⟩
end

set_option maxRecDepth 100000 in
theorem open_state {H : Type} {enc : TypeId × Value → H} {W : World} {base : Nat} {v : Value} {d : DataW H} {p : List MemPlace}
    (hv : Value.okWide Try.prog W .any base 27 v) (h : DataW.Trod enc Try.prog W 0 (fun _ => true) true 27 v d p) :
    ∃ (s : St) (A : Option Addr) (ca : Nat) (C : Option Addr) (cc : Nat), v = .agg #[.int .i64 s.g.t, .int .i64 s.g.s, .int .i64 s.g.k, .slice A s.sl.length ca, .slice C s.th.length cc] ∧ s.sl.length ≤ ca ∧ s.th.length ≤ cc ∧ s.sl.length ≤ maxLen ∧ s.th.length ≤ maxLen ∧ StAt W s A C := by
  obtain ⟨cs, rfl, hsz⟩ := okWide_struct Try.underlying27 hv
  rw [cellsZ] at hsz
  obtain ⟨fuel, hf⟩ := h
  obtain ⟨xs, n, _, _, hlen, hxs, hg⟩ := DataW.trod_struct Try.underlying27 hf
  obtain ⟨l⟩ := cs
  replace hsz : l.length = 5 := by simpa using hsz
  match l, hsz with
  | [c0, c1, c2, c3, c4], _ =>
    match xs, hxs with
    | [y0, y1, y2], _ =>
      have f0 : DataW.trod enc Try.prog W 0 (fun _ => true) true n 23 (List.take (Try.prog.cellsOf 23) [c0, c1, c2, c3, c4]) = some y0 := hg 0 _ rfl
      have f1 : DataW.trod enc Try.prog W 0 (fun _ => true) true n 24 (List.take (Try.prog.cellsOf 24) [c3, c4]) = some y1 := hg 1 _ rfl
      have f2 : DataW.trod enc Try.prog W 0 (fun _ => true) true n 25 (List.take (Try.prog.cellsOf 25) [c4]) = some y2 := hg 2 _ rfl
      rw [cellsG] at f0
      rw [cellsSs] at f1
      rw [cellsTs] at f2
      obtain ⟨g, hgd⟩ := geo_of (show DataW.trod enc Try.prog W 0 (fun _ => true) true n 23 [c0, c1, c2] = some y0 from f0)
      obtain ⟨A, ca, sl, rfl, h1, h2, h3⟩ := slots_of (show DataW.trod enc Try.prog W 0 (fun _ => true) true n 24 [c3] = some y1 from f1)
      obtain ⟨C, cc, th, rfl, q1, q2, q3⟩ := things_of (show DataW.trod enc Try.prog W 0 (fun _ => true) true n 25 [c4] = some y2 from f2)
      injection hgd with e0 hgd
      injection hgd with e1 hgd
      injection hgd with e2 _
      subst e0 e1 e2
      exact ⟨⟨g, sl, th⟩, A, ca, C, cc, rfl, h1, q1, h2, q2, h3, q3⟩
set_option maxRecDepth 100000 in
theorem open_geo {H : Type} {enc : TypeId × Value → H} {W : World} {base : Nat} {v : Value} {d : DataW H} {p : List MemPlace}
    (hv : Value.okWide Try.prog W .any base 23 v) (h : DataW.Trod enc Try.prog W 0 (fun _ => true) true 23 v d p) :
    ∃ g : Gd, v = .agg #[.int .i64 g.t, .int .i64 g.s, .int .i64 g.k] := by
  obtain ⟨cs, rfl, hsz⟩ := okWide_struct Try.underlying23 hv
  obtain ⟨fuel, hf⟩ := h
  obtain ⟨l⟩ := cs
  obtain ⟨g, hg⟩ := geo_of (show DataW.trod enc Try.prog W 0 (fun _ => true) true fuel 23 l = some (d, p) from hf)
  exact ⟨g, by rw [hg]⟩
end Go.Proofs.Ytkpbfbmkolgmgaa
