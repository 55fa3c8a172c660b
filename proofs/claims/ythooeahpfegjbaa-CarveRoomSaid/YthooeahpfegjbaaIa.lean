/-
  Things as plain data: which may be, their eight words, what they cost, new ones. No condition.
-/
import Derived.Test.YthooeahpfegjbaaFb
namespace Go.Proofs.Ythooeahpfegjbaa

/-- a thing's fields -/
structure Tng where
  ty : Int
  bits : Int
  base : Int
  size : Int
  used : Int
  frm : Int
  badge : Int
  full : Bool
  word : Nat
  d0 : Nat
  d1 : Nat
  d2 : Nat
  d3 : Nat
def Tng.val (t : Tng) : Value := .agg #[.int .i64 t.ty, .int .i64 t.bits, .int .i64 t.base, .int .i64 t.size, .int .i64 t.used, .int .i64 t.frm, .int .i64 t.badge, .bool t.full, .int .u64 (t.word : Int), .int .u64 (t.d0 : Int), .int .u64 (t.d1 : Int), .int .u64 (t.d2 : Int), .int .u64 (t.d3 : Int)]
def Tng.eq (a b : Tng) : Bool := a.ty == b.ty && (a.bits == b.bits && (a.base == b.base && (a.size == b.size && (a.used == b.used && (a.frm == b.frm && (a.badge == b.badge && (a.full == b.full && (a.word == b.word && (a.d0 == b.d0 && (a.d1 == b.d1 && (a.d2 == b.d2 && a.d3 == b.d3)))))))))))
theorem Tng.eq_iff {a b : Tng} : a.eq b = true ↔ a = b := by
  obtain ⟨⟩ := a
  obtain ⟨⟩ := b
  simp only [Tng.eq, Bool.and_eq_true, beq_iff_eq, Tng.mk.injEq]
theorem Tng.eq_self (a : Tng) : a.eq a = true := Tng.eq_iff.2 rfl
theorem Tng.eq_not {a b : Tng} (h : a ≠ b) : a.eq b = false := Bool.eq_false_iff.2 fun e => h (Tng.eq_iff.1 e)
def Tng.of (k : Int) : Tng := ⟨k, 0, 0, 0, 0, 0, 0, false, 0, 0, 0, 0, 0⟩
def Tng.zero : Tng := Tng.of 0

/-! ### which may be -/
def inr3 (n lo hi : Int) : Bool := decide (lo ≤ n) && decide (n ≤ hi)
theorem inr3_iff {n lo hi : Int} : inr3 n lo hi = true ↔ lo ≤ n ∧ n ≤ hi := by simp [inr3]
def tw2 (n : Int) : Int := 2 ^ n.toNat
def Tng.only (t : Tng) : Tng :=
  if t.ty = 1 then { Tng.of 1 with size := t.size, used := t.used }
  else if t.ty = 2 then { Tng.of 2 with bits := t.bits, base := t.base }
  else if t.ty = 3 then (if t.full = true then { Tng.of 3 with full := true, word := t.word, badge := t.badge, frm := t.frm } else Tng.of 3)
  else if t.ty = 4 then { Tng.of 4 with word := t.word }
  else if t.ty = 5 then { Tng.of 5 with d0 := t.d0, d1 := t.d1, d2 := t.d2, d3 := t.d3 }
  else Tng.of t.ty
def Tng.fits (t : Tng) : Bool :=
  if t.ty = 0 then true
  else if t.ty = 1 then inr3 t.size 1 4096 && inr3 t.used 0 t.size
  else if t.ty = 2 then inr3 t.bits 1 4 && inr3 t.base 0 (96 - tw2 t.bits)
  else if t.ty = 3 then inr3 t.badge 0 65535 && inr3 t.frm 0 96
  else decide (t.ty = 4) || decide (t.ty = 5)
def Tng.good (t : Tng) : Bool := t.fits && t.only.eq t
/-- the same, to work with -/
inductive Gth : Tng → Prop where
  | none : Gth (Tng.of 0)
  | room (s u : Int) (h1 : 1 ≤ s) (h2 : s ≤ 4096) (h3 : 0 ≤ u) (h4 : u ≤ s) : Gth { Tng.of 1 with size := s, used := u }
  | node (b s : Int) (h1 : 1 ≤ b) (h2 : b ≤ 4) (h3 : 0 ≤ s) (h4 : s ≤ 96 - tw2 b) : Gth { Tng.of 2 with bits := b, base := s }
  | mail : Gth (Tng.of 3)
  | full (w : Nat) (b f : Int) (h1 : 0 ≤ b) (h2 : b ≤ 65535) (h3 : 0 ≤ f) (h4 : f ≤ 96) : Gth { Tng.of 3 with full := true, word := w, badge := b, frm := f }
  | bell (w : Nat) : Gth { Tng.of 4 with word := w }
  | leaf (a b c d : Nat) : Gth { Tng.of 5 with d0 := a, d1 := b, d2 := c, d3 := d }
theorem tng_good {t : Tng} : t.good = true ↔ Gth t := by
  rw [Tng.good, Bool.and_eq_true, Tng.eq_iff]
  constructor
  · rintro ⟨h1, h2⟩
    unfold Tng.fits at h1
    unfold Tng.only at h2
    by_cases k0 : t.ty = 0
    · rw [if_neg (by omega), if_neg (by omega), if_neg (by omega), if_neg (by omega), if_neg (by omega), k0] at h2
      rw [← h2]
      exact .none
    rw [if_neg k0] at h1
    by_cases k1 : t.ty = 1
    · rw [if_pos k1] at h1 h2
      rw [Bool.and_eq_true, inr3_iff, inr3_iff] at h1
      rw [← h2]
      exact .room _ _ h1.1.1 h1.1.2 h1.2.1 h1.2.2
    rw [if_neg k1] at h1 h2
    by_cases k2 : t.ty = 2
    · rw [if_pos k2] at h1 h2
      rw [Bool.and_eq_true, inr3_iff, inr3_iff] at h1
      rw [← h2]
      exact .node _ _ h1.1.1 h1.1.2 h1.2.1 h1.2.2
    rw [if_neg k2] at h1 h2
    by_cases k3 : t.ty = 3
    · rw [if_pos k3] at h1 h2
      rw [Bool.and_eq_true, inr3_iff, inr3_iff] at h1
      by_cases kf : t.full = true
      · rw [if_pos kf] at h2
        rw [← h2]
        exact .full _ _ _ h1.1.1 h1.1.2 h1.2.1 h1.2.2
      · rw [if_neg kf] at h2
        rw [← h2]
        exact .mail
    rw [if_neg k3] at h1 h2
    by_cases k4 : t.ty = 4
    · rw [if_pos k4] at h2
      rw [← h2]
      exact .bell _
    rw [if_neg k4] at h2
    by_cases k5 : t.ty = 5
    · rw [if_pos k5] at h2
      rw [← h2]
      exact .leaf _ _ _ _
    · simp [k4, k5] at h1
  · intro h
    cases h <;> simp_all [Tng.fits, Tng.only, Tng.of, inr3]
/-- how large the fields of a good one are -/
structure Smallth (t : Tng) : Prop where
  ty : 0 ≤ t.ty ∧ t.ty ≤ 5
  bits : 0 ≤ t.bits ∧ t.bits ≤ 4
  base : 0 ≤ t.base ∧ t.base ≤ 95
  size : 0 ≤ t.size ∧ t.size ≤ 4096
  used : 0 ≤ t.used ∧ t.used ≤ 4096
  frm : 0 ≤ t.frm ∧ t.frm ≤ 96
  badge : 0 ≤ t.badge ∧ t.badge ≤ 65535
theorem tw2_pos (n : Int) : 1 ≤ tw2 n := by
  have : 0 < (2 : Nat) ^ n.toNat := Nat.two_pow_pos _
  rw [tw2, show ((2 : Int) ^ n.toNat) = ((2 ^ n.toNat : Nat) : Int) by simp]
  omega
theorem Gth.small {t : Tng} (h : Gth t) : Smallth t := by
  cases h with
  | node b s h1 h2 h3 h4 =>
    have := tw2_pos b
    exact ⟨by simp [Tng.of], by simp; omega, by simp; omega, by simp [Tng.of], by simp [Tng.of], by simp [Tng.of], by simp [Tng.of]⟩
  | _ => constructor <;> simp [Tng.of] <;> omega

/-! ### its words -/
def Tng.w0 (t : Tng) : Nat := (t.ty + t.bits * 256 + t.base * 65536 + (if t.full = true then 1 else 0) * 65536 * 256 + t.frm * 65536 * 65536).toNat
def Tng.w1 (t : Tng) : Nat := (t.size + t.used * 65536 + t.badge * 65536 * 65536).toNat
def Tng.words (t : Tng) : List Nat := [t.w0, t.w1, t.word, t.d0, t.d1, t.d2, t.d3, 0]
def tput (t : Tng) : List Nat := if t.good = true then t.words else []
def tofw (a b w d0 d1 d2 d3 : Nat) : Tng := ⟨(a % 256 : Nat), (a / 256 % 256 : Nat), (a / 65536 % 256 : Nat), (b % 65536 : Nat), (b / 65536 % 65536 : Nat), (a / 65536 / 65536 % 256 : Nat), (b / 65536 / 65536 % 65536 : Nat), a / 65536 / 256 % 256 == 1, w, d0, d1, d2, d3⟩
def tof (l : List Nat) : Tng := tofw (l.getD 0 0) (l.getD 1 0) (l.getD 2 0) (l.getD 3 0) (l.getD 4 0) (l.getD 5 0) (l.getD 6 0)
def tget (l : List Nat) : Option Tng := if l.length = 8 ∧ (tof l).good = true ∧ (tof l).words = l then some (tof l) else none
theorem tof_words {t : Tng} (h : Gth t) : tof t.words = t := by
  have hs := h.small
  obtain ⟨ty, bits, base, size, used, frm, badge, full, word, d0, d1, d2, d3⟩ := t
  obtain ⟨⟨a1, a2⟩, ⟨b1, b2⟩, ⟨c1, c2⟩, ⟨e1, e2⟩, ⟨f1, f2⟩, ⟨g1, g2⟩, ⟨k1, k2⟩⟩ := hs
  simp only at a1 a2 b1 b2 c1 c2 e1 e2 f1 f2 g1 g2 k1 k2
  simp only [tof, tofw, Tng.words, List.getD_cons_zero, List.getD_cons_succ, Tng.mk.injEq, Tng.w0, Tng.w1, and_true]
  refine ⟨?_, ?_, ?_, ?_, ?_, ?_, ?_, ?_⟩
  · cases full <;> simp <;> omega
  · cases full <;> simp <;> omega
  · cases full <;> simp <;> omega
  · omega
  · omega
  · cases full <;> simp <;> omega
  · omega
  · cases full <;> simp <;> omega
theorem tget_words {t : Tng} (h : Gth t) : tget t.words = some t := by
  rw [tget, if_pos ⟨rfl, by rw [tof_words h]; exact tng_good.2 h, by rw [tof_words h]⟩, tof_words h]
theorem tget_some {l : List Nat} {t : Tng} (h : tget l = some t) : Gth t ∧ t.words = l := by
  rw [tget] at h
  split at h
  · rename_i h1
    injection h with h
    subst h
    exact ⟨tng_good.1 h1.2.1, h1.2.2⟩
  · cases h
theorem tw_inj {a b : Tng} (ha : Gth a) (hb : Gth b) (h : a.words = b.words) : a = b := by rw [← tof_words ha, ← tof_words hb, h]
theorem tw_beq {a b : Tng} (ha : Gth a) (hb : Gth b) : (a.words == b.words) = a.eq b := by
  rw [Bool.eq_iff_iff, beq_iff_eq, Tng.eq_iff]
  exact ⟨tw_inj ha hb, fun e => by rw [e]⟩

/-! ### what one costs, new ones -/
def tcost (k s : Int) : Option Int :=
  if k = 1 then (if inr3 s 1 4096 = true then some s else none)
  else if k = 2 then (if inr3 s 1 4 = true then some (tw2 s) else none)
  else if k = 3 then some 1 else if k = 4 then some 1 else if k = 5 then some 2 else none
def tnewt (k s b : Int) : Tng := if k = 1 then { Tng.of k with size := s } else if k = 2 then { Tng.of k with bits := s, base := b } else Tng.of k
def tnew (k s b : Int) : Option Tng := if (tcost k s).isSome = true ∧ (tnewt k s b).good = true then some (tnewt k s b) else none
theorem tnew_some {k s b : Int} {t : Tng} (h : tnew k s b = some t) : (∃ n, tcost k s = some n ∧ 1 ≤ n) ∧ t.good = true ∧ t.ty = k ∧ t.used = 0 ∧ t.full = false ∧ t.word = 0 ∧ t.d0 = 0 ∧ t.d1 = 0 ∧ t.d2 = 0 ∧ t.d3 = 0 := by
  rw [tnew] at h
  split at h
  · rename_i h1
    injection h with h
    subst h
    refine ⟨?_, h1.2, ?_⟩
    · obtain ⟨n, hn⟩ := Option.isSome_iff_exists.1 h1.1
      refine ⟨n, hn, ?_⟩
      unfold tcost at hn
      by_cases k1 : k = 1
      · rw [if_pos k1] at hn
        split at hn
        · rename_i hs
          have := (inr3_iff.1 hs).1
          injection hn with hn
          omega
        · cases hn
      rw [if_neg k1] at hn
      by_cases k2 : k = 2
      · rw [if_pos k2] at hn
        split at hn
        · injection hn with hn
          have := tw2_pos s
          omega
        · cases hn
      rw [if_neg k2] at hn
      by_cases k3 : k = 3
      · rw [if_pos k3] at hn
        injection hn with hn
        omega
      rw [if_neg k3] at hn
      by_cases k4 : k = 4
      · rw [if_pos k4] at hn
        injection hn with hn
        omega
      rw [if_neg k4] at hn
      split at hn
      · injection hn with hn
        omega
      · cases hn
    · unfold tnewt
      by_cases k1 : k = 1
      · simp [k1, Tng.of]
      · by_cases k2 : k = 2
        · simp [k2, Tng.of]
        · simp [k1, k2, Tng.of]
  · cases h
theorem tnew_none {k s b : Int} (h : tnew k s b = none) : tcost k s = none ∨ k = 2 := by
  rw [tnew] at h
  split at h
  · cases h
  · rename_i h1
    by_cases k2 : k = 2
    · exact .inr k2
    refine .inl ?_
    rcases hc : tcost k s with _ | n
    · rfl
    · exfalso
      refine h1 ⟨by rw [hc]; rfl, ?_⟩
      rw [tng_good]
      unfold tcost at hc
      unfold tnewt
      by_cases k1 : k = 1
      · subst k1
        rw [if_pos rfl] at hc ⊢
        split at hc
        · rename_i hs
          have := inr3_iff.1 hs
          exact .room s 0 this.1 this.2 (by omega) (by omega)
        · cases hc
      rw [if_neg k1, if_neg k2] at hc ⊢
      by_cases k3 : k = 3
      · subst k3; exact .mail
      rw [if_neg k3] at hc
      by_cases k4 : k = 4
      · subst k4; exact .bell 0
      rw [if_neg k4] at hc
      by_cases k5 : k = 5
      · subst k5; exact .leaf 0 0 0 0
      rw [if_neg k5] at hc
      cases hc
end Go.Proofs.Ythooeahpfegjbaa
