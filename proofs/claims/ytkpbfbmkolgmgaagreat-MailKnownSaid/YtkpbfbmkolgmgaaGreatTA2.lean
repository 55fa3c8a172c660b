/-
  The texts Ia, Ib, Ic, Id, Oa, Ob, Oc, Od, Ef, Ex, Ja, Jb, Jc, Jd, Je, Jf, Jg, Ji, Jk, Jl, Jm, Jo, Jr of this seat, one behind the other. Conditions: as each theorem says.
-/
import Derived.Test.YtkpbfbmkolgmgaaGreatTA1
import Derived.WalkKit
import Derived.WalkSpells
import Derived.WalkLawsBesides
import Derived.Lib.Hide
import Derived.Deep.CutBlock
import Derived.Deep.LoopGhost
import Derived.Deep.RegionHeld3
import Derived.Deep.DeepCutAuto
import Derived.Deep.CutRange
import Derived.Deep.QuietTactic
import Derived.BigQuiet
import Derived.StillTailTactics
import Derived.Handy
import Derived.Below
import Derived.BigRegion
import Derived.Deep.RegionLaw
import Derived.Deep.AppendLies
import Derived.Laws.AppendOwn
import Derived.Laws.OwnMore
import Derived.ProofKit
import Derived.OpenShut
import Derived.Carry
import Derived.Deep.Slices
namespace Go.Proofs.YtkpbfbmkolgmgaaGreat

/-- a thing's fields -/
structure Tng where
  ty : Int
  bits : Int
  base : Int
  size : Int
  used : Int
  frm : Int
  badge : Int
  full : Bool
  word : Nat
  d0 : Nat
  d1 : Nat
  d2 : Nat
  d3 : Nat
def Tng.val (t : Tng) : Value := .agg #[.int .i64 t.ty, .int .i64 t.bits, .int .i64 t.base, .int .i64 t.size, .int .i64 t.used, .int .i64 t.frm, .int .i64 t.badge, .bool t.full, .int .u64 (t.word : Int), .int .u64 (t.d0 : Int), .int .u64 (t.d1 : Int), .int .u64 (t.d2 : Int), .int .u64 (t.d3 : Int)]
def Tng.eq (a b : Tng) : Bool := a.ty == b.ty && (a.bits == b.bits && (a.base == b.base && (a.size == b.size && (a.used == b.used && (a.frm == b.frm && (a.badge == b.badge && (a.full == b.full && (a.word == b.word && (a.d0 == b.d0 && (a.d1 == b.d1 && (a.d2 == b.d2 && a.d3 == b.d3)))))))))))
theorem Tng.eq_iff {a b : Tng} : a.eq b = true ↔ a = b := by
  obtain ⟨⟩ := a
  obtain ⟨⟩ := b
  simp only [Tng.eq, Bool.and_eq_true, beq_iff_eq, Tng.mk.injEq]
theorem Tng.eq_self (a : Tng) : a.eq a = true := Tng.eq_iff.2 rfl
def Tng.of (k : Int) : Tng := ⟨k, 0, 0, 0, 0, 0, 0, false, 0, 0, 0, 0, 0⟩
def Tng.zero : Tng := Tng.of 0

/-! ### which may be -/
def inr3 (n lo hi : Int) : Bool := decide (lo ≤ n) && decide (n ≤ hi)
theorem inr3_iff {n lo hi : Int} : inr3 n lo hi = true ↔ lo ≤ n ∧ n ≤ hi := by simp [inr3]
def tw2 (n : Int) : Int := 2 ^ n.toNat
def Tng.only (t : Tng) : Tng :=
  if t.ty = 1 then { Tng.of 1 with size := t.size, used := t.used }
  else if t.ty = 2 then { Tng.of 2 with bits := t.bits, base := t.base }
  else if t.ty = 3 then (if t.full = true then { Tng.of 3 with full := true, word := t.word, badge := t.badge, frm := t.frm } else Tng.of 3)
  else if t.ty = 4 then { Tng.of 4 with word := t.word }
  else if t.ty = 5 then { Tng.of 5 with d0 := t.d0, d1 := t.d1, d2 := t.d2, d3 := t.d3 }
  else Tng.of t.ty
def Tng.fits (t : Tng) : Bool :=
  if t.ty = 0 then true
  else if t.ty = 1 then inr3 t.size 1 4096 && inr3 t.used 0 t.size
  else if t.ty = 2 then inr3 t.bits 1 4 && inr3 t.base 0 (96 - tw2 t.bits)
  else if t.ty = 3 then inr3 t.badge 0 65535 && inr3 t.frm 0 96
  else decide (t.ty = 4) || decide (t.ty = 5)
def Tng.good (t : Tng) : Bool := t.fits && t.only.eq t
/-- the same, to work with -/
inductive Gth : Tng → Prop where
  | none : Gth (Tng.of 0)
  | room (s u : Int) (h1 : 1 ≤ s) (h2 : s ≤ 4096) (h3 : 0 ≤ u) (h4 : u ≤ s) : Gth { Tng.of 1 with size := s, used := u }
  | node (b s : Int) (h1 : 1 ≤ b) (h2 : b ≤ 4) (h3 : 0 ≤ s) (h4 : s ≤ 96 - tw2 b) : Gth { Tng.of 2 with bits := b, base := s }
  | mail : Gth (Tng.of 3)
  | full (w : Nat) (b f : Int) (h1 : 0 ≤ b) (h2 : b ≤ 65535) (h3 : 0 ≤ f) (h4 : f ≤ 96) : Gth { Tng.of 3 with full := true, word := w, badge := b, frm := f }
  | bell (w : Nat) : Gth { Tng.of 4 with word := w }
  | leaf (a b c d : Nat) : Gth { Tng.of 5 with d0 := a, d1 := b, d2 := c, d3 := d }
theorem tng_good {t : Tng} : t.good = true ↔ Gth t := by
  rw [Tng.good, Bool.and_eq_true, Tng.eq_iff]
  constructor
  · rintro ⟨h1, h2⟩
    unfold Tng.fits at h1
    unfold Tng.only at h2
    by_cases k0 : t.ty = 0
    · rw [if_neg (by omega), if_neg (by omega), if_neg (by omega), if_neg (by omega), if_neg (by omega), k0] at h2
      rw [← h2]
      exact .none
    rw [if_neg k0] at h1
    by_cases k1 : t.ty = 1
    · rw [if_pos k1] at h1 h2
      rw [Bool.and_eq_true, inr3_iff, inr3_iff] at h1
      rw [← h2]
      exact .room _ _ h1.1.1 h1.1.2 h1.2.1 h1.2.2
    rw [if_neg k1] at h1 h2
    by_cases k2 : t.ty = 2
    · rw [if_pos k2] at h1 h2
      rw [Bool.and_eq_true, inr3_iff, inr3_iff] at h1
      rw [← h2]
      exact .node _ _ h1.1.1 h1.1.2 h1.2.1 h1.2.2
    rw [if_neg k2] at h1 h2
    by_cases k3 : t.ty = 3
    · rw [if_pos k3] at h1 h2
      rw [Bool.and_eq_true, inr3_iff, inr3_iff] at h1
      by_cases kf : t.full = true
      · rw [if_pos kf] at h2
        rw [← h2]
        exact .full _ _ _ h1.1.1 h1.1.2 h1.2.1 h1.2.2
      · rw [if_neg kf] at h2
        rw [← h2]
        exact .mail
    rw [if_neg k3] at h1 h2
    by_cases k4 : t.ty = 4
    · rw [if_pos k4] at h2
      rw [← h2]
      exact .bell _
    rw [if_neg k4] at h2
    by_cases k5 : t.ty = 5
    · rw [if_pos k5] at h2
      rw [← h2]
      exact .leaf _ _ _ _
    · simp [k4, k5] at h1
  · intro h
    cases h <;> simp_all [Tng.fits, Tng.only, Tng.of, inr3]
/-- how large the fields of a good one are -/
structure Smallth (t : Tng) : Prop where
  ty : 0 ≤ t.ty ∧ t.ty ≤ 5
  bits : 0 ≤ t.bits ∧ t.bits ≤ 4
  base : 0 ≤ t.base ∧ t.base ≤ 95
  size : 0 ≤ t.size ∧ t.size ≤ 4096
  used : 0 ≤ t.used ∧ t.used ≤ 4096
  frm : 0 ≤ t.frm ∧ t.frm ≤ 96
  badge : 0 ≤ t.badge ∧ t.badge ≤ 65535
theorem tw2_pos (n : Int) : 1 ≤ tw2 n := by
  have : 0 < (2 : Nat) ^ n.toNat := Nat.two_pow_pos _
  rw [tw2, show ((2 : Int) ^ n.toNat) = ((2 ^ n.toNat : Nat) : Int) by simp]
  omega
theorem Gth.small {t : Tng} (h : Gth t) : Smallth t := by
  cases h with
  | node b s h1 h2 h3 h4 =>
    have := tw2_pos b
    exact ⟨by simp [Tng.of], by simp; omega, by simp; omega, by simp [Tng.of], by simp [Tng.of], by simp [Tng.of], by simp [Tng.of]⟩
  | _ => constructor <;> simp [Tng.of] <;> omega

/-! ### its words -/
def Tng.w0 (t : Tng) : Nat := (t.ty + t.bits * 256 + t.base * 65536 + (if t.full = true then 1 else 0) * 65536 * 256 + t.frm * 65536 * 65536).toNat
def Tng.w1 (t : Tng) : Nat := (t.size + t.used * 65536 + t.badge * 65536 * 65536).toNat
/-! ### what one costs, new ones -/
def tcost (k s : Int) : Option Int :=
  if k = 1 then (if inr3 s 1 4096 = true then some s else none)
  else if k = 2 then (if inr3 s 1 4 = true then some (tw2 s) else none)
  else if k = 3 then some 1 else if k = 4 then some 1 else if k = 5 then some 2 else none
def tnewt (k s b : Int) : Tng := if k = 1 then { Tng.of k with size := s } else if k = 2 then { Tng.of k with bits := s, base := b } else Tng.of k
def tnew (k s b : Int) : Option Tng := if (tcost k s).isSome = true ∧ (tnewt k s b).good = true then some (tnewt k s b) else none
end Go.Proofs.YtkpbfbmkolgmgaaGreat
namespace Go.Proofs.YtkpbfbmkolgmgaaGreat
open Go.RowKit

/-! ### the law's words -/
/-! ### a thing in a box -/
def tcells (t : Tng) : Array Value := #[.int .i64 t.ty, .int .i64 t.bits, .int .i64 t.base, .int .i64 t.size, .int .i64 t.used, .int .i64 t.frm, .int .i64 t.badge, .bool t.full, .int .u64 (t.word : Int), .int .u64 (t.d0 : Int), .int .u64 (t.d1 : Int), .int .u64 (t.d2 : Int), .int .u64 (t.d3 : Int)]
structure Tbx (W w : World) (g : Nat) (t : Tng) : Prop where
  c0 : w.cell? ⟨g, 0, none⟩ = some (.int .i64 t.ty)
  c1 : w.cell? ⟨g, 1, none⟩ = some (.int .i64 t.bits)
  c2 : w.cell? ⟨g, 2, none⟩ = some (.int .i64 t.base)
  c3 : w.cell? ⟨g, 3, none⟩ = some (.int .i64 t.size)
  c4 : w.cell? ⟨g, 4, none⟩ = some (.int .i64 t.used)
  c5 : w.cell? ⟨g, 5, none⟩ = some (.int .i64 t.frm)
  c6 : w.cell? ⟨g, 6, none⟩ = some (.int .i64 t.badge)
  c7 : w.cell? ⟨g, 7, none⟩ = some (.bool t.full)
  c8 : w.cell? ⟨g, 8, none⟩ = some (.int .u64 (t.word : Int))
  c9 : w.cell? ⟨g, 9, none⟩ = some (.int .u64 (t.d0 : Int))
  c10 : w.cell? ⟨g, 10, none⟩ = some (.int .u64 (t.d1 : Int))
  c11 : w.cell? ⟨g, 11, none⟩ = some (.int .u64 (t.d2 : Int))
  c12 : w.cell? ⟨g, 12, none⟩ = some (.int .u64 (t.d3 : Int))
  free : ∀ k, w.frozen? ⟨g, k, none⟩ = false
  old : Below W.heap.size W w
  base : W.heap.size ≤ g
  lt : g < w.heap.size
theorem Tbx.new (w : World) (t : Tng) (ty : TypeId) : Tbx w (w.alloc (.cells (tcells t) ty)) w.heap.size t := by
  have hg := heap_alloc_new w (.cells (tcells t) ty)
  constructor
  case old => exact below_alloc _ _
  case base => exact Nat.le_refl _
  case lt => simp
  case free => exact fun k => frozen_of_row _ _ k _ _ hg
  all_goals (rw [cell_of_row _ _ _ _ _ _ hg]; rfl)
theorem Tbx.on {W w w' : World} {g : Nat} {t : Tng} (h : Tbx W w g t) (hb : Below w.heap.size w w') : Tbx W w' g t := by
  have e : ∀ k, w'.cell? ⟨g, k, none⟩ = w.cell? ⟨g, k, none⟩ := fun k => hb.cell (p := ⟨g, k, none⟩) h.lt
  refine ⟨?_, ?_, ?_, ?_, ?_, ?_, ?_, ?_, ?_, ?_, ?_, ?_, ?_, fun k => ?_, below_on h.old hb, h.base, Nat.lt_of_lt_of_le h.lt hb.size⟩
  all_goals first | rw [e] | skip
  · exact h.c0
  · exact h.c1
  · exact h.c2
  · exact h.c3
  · exact h.c4
  · exact h.c5
  · exact h.c6
  · exact h.c7
  · exact h.c8
  · exact h.c9
  · exact h.c10
  · exact h.c11
  · exact h.c12
  · rw [World.frozen?_of_block (hb.block _ h.lt)]; exact h.free k
end Go.Proofs.YtkpbfbmkolgmgaaGreat
namespace Go.Proofs.YtkpbfbmkolgmgaaGreat
open Go.RowKit
/-! ### two things held against each other -/
theorem tall_range : ∀ (xs ys : List Int), xs.length = ys.length → ((List.range xs.length).all fun i => xs.getD i 0 == ys.getD i 0) = (xs == ys)
  | [], [], _ => rfl
  | x :: xs, y :: ys, h => by
    have ih := tall_range xs ys (by simpa using h)
    rw [List.length_cons, List.range_succ_eq_map, List.all_cons, List.all_map]
    simp only [List.getD_cons_zero, Function.comp_def, List.getD_cons_succ, ih]
    simp [List.cons_beq_cons]
  | [], _ :: _, h => by simp at h
  | _ :: _, [], h => by simp at h
def tucells (l : List Int) : List Value := l.map (.int .u64)
theorem tucells_get {zs : List Int} {j : Nat} (h : j < zs.length) : (tucells zs)[j]? = some (.int .u64 (zs.getD j 0)) := by simp [tucells, h]
theorem tequal_words {P : Program} (w : World) (d : Nat) (t e : TypeId) (n : Nat) (ht : P.underlying t = some (.array n e)) (he : P.underlying e = some (.int .u64)) (hsz : ∀ w, (sizeOf e).run P w = .ok 1 w)
    (xs ys : List Int) (hx : xs.length = n) (hy : ys.length = n) :
    (Op.equalIn (d + 2) t (.agg (tucells xs).toArray) (.agg (tucells ys).toArray)).run P w = .ok (xs == ys) w := by
  rw [← tall_range xs ys (hx.trans hy.symm), hx, List.range_eq_range', Op.equalIn]
  simp only [Sem.run_bind, run_underlying ht, Result.andThen_ok, hsz, Std.Legacy.Range.forIn_eq_forIn_range', Std.Legacy.Range.size, Nat.sub_zero, Nat.add_sub_cancel, Nat.div_one]
  have hl : ∀ i ∈ List.range' 0 n 1, i < n := fun i hi => by simpa using (List.mem_range'_1.1 hi).2
  generalize List.range' 0 n 1 = l at hl ⊢
  induction l with
  | nil => simp
  | cons i l ih =>
    have hi : i < n := hl i (by simp)
    have px : (Go.part e (tucells xs).toArray (i * 1)).run P w = .ok (.int .u64 (xs.getD i 0)) w := by
      have := tucells_get (zs := xs) (j := i) (by omega)
      simp [Go.part, isAgg, run_underlying he, this]
    have py : (Go.part e (tucells ys).toArray (i * 1)).run P w = .ok (.int .u64 (ys.getD i 0)) w := by
      have := tucells_get (zs := ys) (j := i) (by omega)
      simp [Go.part, isAgg, run_underlying he, this]
    have pe : (Op.equalIn (d + 1) e (.int .u64 (xs.getD i 0)) (.int .u64 (ys.getD i 0))).run P w = .ok (xs.getD i 0 == ys.getD i 0) w := by
      rw [run_equalIn_int w d e .u64 .u64 _ _ he]
    simp only [List.forIn_cons, Sem.run_bind, px, py, pe, Result.andThen_ok, List.all_cons]
    cases hb : (xs.getD i 0 == ys.getD i 0)
    · simp
    · simp only [Bool.not_true, Bool.false_eq_true, if_false, Sem.run_pure, Result.andThen_ok, Bool.true_and]
      exact ih fun j hj => hl j (by simp [hj])
theorem tsize23 : (Tryz.prog.info? 31).map (·.size) = some 1 := by kernel_rfl
theorem trun_size23 (w : World) : (sizeOf 31).run Tryz.prog w = .ok 1 w := by
  have h := tsize23
  cases hq : Tryz.prog.info? 31 with
  | none => simp [hq] at h
  | some i => simp [hq] at h; simp [sizeOf, typeInfo, hq, h]
theorem four_beq (a b c d a' b' c' d' : Nat) : ([(a : Int), (b : Int), (c : Int), (d : Int)] == [(a' : Int), (b' : Int), (c' : Int), (d' : Int)]) = (a == a' && (b == b' && (c == c' && d == d'))) := by
  have e : ∀ x y : Nat, ((x : Int) == (y : Int)) = (x == y) := fun x y => by
    rw [Bool.eq_iff_iff, beq_iff_eq, beq_iff_eq]
    exact Int.ofNat_inj
  simp only [List.cons_beq_cons, e]
  simp
theorem teq24 (d : Nat) (a b c e a' b' c' e' : Nat) (w : World) : (Op.equalIn (d + 2) 65 (.agg #[.int .u64 (a : Int), .int .u64 (b : Int), .int .u64 (c : Int), .int .u64 (e : Int)]) (.agg #[.int .u64 (a' : Int), .int .u64 (b' : Int), .int .u64 (c' : Int), .int .u64 (e' : Int)])).run Tryz.prog w = .ok (a == a' && (b == b' && (c == c' && e == e'))) w := by
  rw [← four_beq]
  exact tequal_words w d 65 31 4 Tryz.underlying65 Tryz.underlying31 trun_size23 [a, b, c, e] [a', b', c', e'] rfl rfl
set_option maxHeartbeats 1000000 in
theorem teq26 (a b : Tng) (w : World) : (Op.equalIn 10000 67 a.val b.val).run Tryz.prog w = .ok (a.eq b) w := by
  obtain ⟨a0, a1, a2, a3, a4, a5, a6, a7, a8, a9, a10, a11, a12⟩ := a
  obtain ⟨b0, b1, b2, b3, b4, b5, b6, b7, b8, b9, b10, b11, b12⟩ := b
  have h := fun w => teq24 9997 a9 a10 a11 a12 b9 b10 b11 b12 w
  unfold Tng.val Tng.eq
  simp only
  generalize (a9 == b9 && (a10 == b10 && (a11 == b11 && a12 == b12))) = z at h ⊢
  by_cases h0 : a0 = b0
  case neg => simp [go_sem, h0]
  subst h0
  by_cases h1 : a1 = b1
  case neg => simp [go_sem, h1]
  subst h1
  by_cases h2 : a2 = b2
  case neg => simp [go_sem, h2]
  subst h2
  by_cases h3 : a3 = b3
  case neg => simp [go_sem, h3]
  subst h3
  by_cases h4 : a4 = b4
  case neg => simp [go_sem, h4]
  subst h4
  by_cases h5 : a5 = b5
  case neg => simp [go_sem, h5]
  subst h5
  by_cases h6 : a6 = b6
  case neg => simp [go_sem, h6]
  subst h6
  by_cases h7 : a7 = b7
  case neg => simp [go_sem, h7]
  subst h7
  by_cases h8 : a8 = b8
  case neg =>
    have q : ¬ (a8 : Int) = (b8 : Int) := by omega
    simp [go_sem, h8, q]
  subst h8
  cases z <;> simp [go_sem, h]
end Go.Proofs.YtkpbfbmkolgmgaaGreat
namespace Go.Proofs.YtkpbfbmkolgmgaaGreat
open Go.RowKit

end Go.Proofs.YtkpbfbmkolgmgaaGreat
namespace Go.Proofs.YtkpbfbmkolgmgaaGreat

/-! ### which may be -/
def Tng.kin (t : Tng) : Tng :=
  if t.ty = 1 then { Tng.of 1 with size := t.size, used := t.used }
  else if t.ty = 2 then { Tng.of 2 with bits := t.bits, base := t.base }
  else if t.ty = 3 then (if t.full = true then { Tng.of 3 with full := true, word := t.word, badge := t.badge, frm := t.frm } else Tng.of 3)
  else if t.ty = 4 then { Tng.of 4 with word := t.word }
  else if t.ty = 5 then { Tng.of 5 with d0 := t.d0, d1 := t.d1, d2 := t.d2, d3 := t.d3 }
  else Tng.of 0
def Tng.fitp (t : Tng) : Bool :=
  if t.ty = 1 then inr3 t.size 1 4096 && inr3 t.used 0 t.size
  else if t.ty = 2 then inr3 t.bits 1 4 && inr3 t.base 0 (96 - tw2 t.bits)
  else inr3 t.badge 0 65535 && inr3 t.frm 0 96
theorem good_code (t : Tng) : t.good = (t.eq t.kin && t.fitp) := by
  rw [Bool.eq_iff_iff, tng_good, Bool.and_eq_true, Tng.eq_iff]
  constructor
  · intro h
    cases h <;> simp_all [Tng.kin, Tng.fitp, Tng.of, inr3]
  · rintro ⟨h2, h1⟩
    unfold Tng.fitp at h1
    unfold Tng.kin at h2
    by_cases k1 : t.ty = 1
    · rw [if_pos k1] at h1 h2
      rw [Bool.and_eq_true, inr3_iff, inr3_iff] at h1
      rw [h2]
      exact .room _ _ h1.1.1 h1.1.2 h1.2.1 h1.2.2
    rw [if_neg k1] at h1 h2
    by_cases k2 : t.ty = 2
    · rw [if_pos k2] at h1 h2
      rw [Bool.and_eq_true, inr3_iff, inr3_iff] at h1
      rw [h2]
      exact .node _ _ h1.1.1 h1.1.2 h1.2.1 h1.2.2
    rw [if_neg k2] at h1 h2
    rw [Bool.and_eq_true, inr3_iff, inr3_iff] at h1
    by_cases k3 : t.ty = 3
    · rw [if_pos k3] at h2
      by_cases kf : t.full = true
      · rw [if_pos kf] at h2
        rw [h2]
        exact .full _ _ _ h1.1.1 h1.1.2 h1.2.1 h1.2.2
      · rw [if_neg kf] at h2
        rw [h2]
        exact .mail
    rw [if_neg k3] at h2
    by_cases k4 : t.ty = 4
    · rw [if_pos k4] at h2
      rw [h2]
      exact .bell _
    rw [if_neg k4] at h2
    by_cases k5 : t.ty = 5
    · rw [if_pos k5] at h2
      rw [h2]
      exact .leaf _ _ _ _
    rw [if_neg k5] at h2
    rw [h2]
    exact .none

/-! ### its fields in a word -/
/-! ### its words, as the program puts them -/
/-! ### what is read -/
end Go.Proofs.YtkpbfbmkolgmgaaGreat
namespace Go.Proofs.YtkpbfbmkolgmgaaGreat
open Go.RowKit

theorem sizefits_is (s : Int) (w : World) : Calls Tryz.prog 154 #[.int .i64 s] w fun e w' => e = .returned (.bool (inr3 s 1 4096)) ∧ w' = w := by
  by_cases h1 : 1 ≤ s
  · by_cases h2 : s ≤ 4096
    · have HF : Hid (inr3 s 1 4096 = true) := Lib.hid (inr3_iff.2 ⟨h1, h2⟩)
      go_enter Tryz.func154, Tryz.ntmps154
      go_wp2
      go_ret
      exact ⟨by rw [HF.out]; rfl, rfl⟩
    · have HF : Hid (inr3 s 1 4096 = false) := Lib.hid (Bool.eq_false_iff.2 fun e => h2 (inr3_iff.1 e).2)
      go_enter Tryz.func154, Tryz.ntmps154
      go_wp2
      go_ret
      exact ⟨by rw [HF.out]; rfl, rfl⟩
  · have HF : Hid (inr3 s 1 4096 = false) := Lib.hid (Bool.eq_false_iff.2 fun e => h1 (inr3_iff.1 e).1)
    go_enter Tryz.func154, Tryz.ntmps154
    go_wp2
    go_ret
    exact ⟨by rw [HF.out]; rfl, rfl⟩
theorem bitsfit_is (s : Int) (w : World) : Calls Tryz.prog 155 #[.int .i64 s] w fun e w' => e = .returned (.bool (inr3 s 1 4)) ∧ w' = w := by
  by_cases h1 : 1 ≤ s
  · by_cases h2 : s ≤ 4
    · have HF : Hid (inr3 s 1 4 = true) := Lib.hid (inr3_iff.2 ⟨h1, h2⟩)
      go_enter Tryz.func155, Tryz.ntmps155
      go_wp2
      go_ret
      exact ⟨by rw [HF.out]; rfl, rfl⟩
    · have HF : Hid (inr3 s 1 4 = false) := Lib.hid (Bool.eq_false_iff.2 fun e => h2 (inr3_iff.1 e).2)
      go_enter Tryz.func155, Tryz.ntmps155
      go_wp2
      go_ret
      exact ⟨by rw [HF.out]; rfl, rfl⟩
  · have HF : Hid (inr3 s 1 4 = false) := Lib.hid (Bool.eq_false_iff.2 fun e => h1 (inr3_iff.1 e).1)
    go_enter Tryz.func155, Tryz.ntmps155
    go_wp2
    go_ret
    exact ⟨by rw [HF.out]; rfl, rfl⟩
theorem sizefits_at {s : Int} {z : Bool} (h : inr3 s 1 4096 = z) (w : World) : Calls Tryz.prog 154 #[.int .i64 s] w fun e w' => e = .returned (.bool z) ∧ w' = w := h ▸ sizefits_is s w
theorem bitsfit_at {s : Int} {z : Bool} (h : inr3 s 1 4 = z) (w : World) : Calls Tryz.prog 155 #[.int .i64 s] w fun e w' => e = .returned (.bool z) ∧ w' = w := h ▸ bitsfit_is s w
theorem tslots_at {s n : Int} (h1 : inr3 s 1 4 = true) (hn : tw2 s = n) (w : World) : Calls Tryz.prog 156 #[.int .i64 s] w fun e w' => e = .returned (.int .i64 n) ∧ w' = w := by
  subst hn
  have h := inr3_iff.1 h1
  have h4 : s = 1 ∨ s = 2 ∨ s = 3 ∨ s = 4 := by omega
  clear h h1
  rcases h4 with rfl | rfl | rfl | rfl
  all_goals
    go_enter Tryz.func156, Tryz.ntmps156
    go_wp2
    go_ret
    exact ⟨rfl, rfl⟩
/-! ### ofKind -/
set_option maxHeartbeats 4000000 in
theorem kind_any (t : Tng) (w : World) : Calls Tryz.prog 144 #[t.val] w fun e w' => e = .returned t.kin.val ∧ Below w.heap.size w w' := by
  obtain ⟨ty, bits, base, size, used, frm, badge, full, word, d0, d1, d2, d3⟩ := t
  obtain ⟨v, hv⟩ : ∃ v, (Tng.mk ty bits base size used frm badge full word d0 d1 d2 d3).kin.val = v := ⟨_, rfl⟩
  rw [hv]
  have HV := Lib.hid hv
  clear hv
  unfold Tng.val at *
  simp only at *
  by_cases k1 : ty = 1
  · subst k1
    go_enter Tryz.func144, Tryz.ntmps144
    go_wp2
    go_returns
    exact ⟨by rw [← HV.out]; rfl, below_on (below_alloc _ _) (below_alloc _ _)⟩
  by_cases k2 : ty = 2
  · subst k2
    go_enter Tryz.func144, Tryz.ntmps144
    go_wp2
    go_returns
    exact ⟨by rw [← HV.out]; rfl, below_on (below_alloc _ _) (below_alloc _ _)⟩
  by_cases k3 : ty = 3
  · subst k3
    cases full
    · go_enter Tryz.func144, Tryz.ntmps144
      go_wp2
      go_returns
      exact ⟨by rw [← HV.out]; rfl, below_on (below_alloc _ _) (below_alloc _ _)⟩
    · go_enter Tryz.func144, Tryz.ntmps144
      go_wp2
      go_returns
      exact ⟨by rw [← HV.out]; rfl, below_on (below_alloc _ _) (below_alloc _ _)⟩
  by_cases k4 : ty = 4
  · subst k4
    go_enter Tryz.func144, Tryz.ntmps144
    go_wp2
    go_returns
    exact ⟨by rw [← HV.out]; rfl, below_on (below_alloc _ _) (below_alloc _ _)⟩
  by_cases k5 : ty = 5
  · subst k5
    go_enter Tryz.func144, Tryz.ntmps144
    go_wp2
    go_returns
    exact ⟨by rw [← HV.out]; rfl, below_on (below_alloc _ _) (below_alloc _ _)⟩
  · have hk : (Tng.mk ty bits base size used frm badge full word d0 d1 d2 d3).kin = Tng.of 0 := by
      unfold Tng.kin
      rw [if_neg k1, if_neg k2, if_neg k3, if_neg k4, if_neg k5]
    have HK := Lib.hid hk
    clear hk
    go_enter Tryz.func144, Tryz.ntmps144
    go_wp2
    go_returns
    exact ⟨by rw [← HV.out, HK.out]; rfl, below_on (below_alloc _ _) (below_alloc _ _)⟩
end Go.Proofs.YtkpbfbmkolgmgaaGreat
namespace Go.Proofs.YtkpbfbmkolgmgaaGreat
open Go.RowKit

set_option maxHeartbeats 4000000 in
theorem tfits1 (bits base size used frm badge : Int) (full : Bool) (word d0 d1 d2 d3 : Nat) (w : World) :
    Calls Tryz.prog 145 #[.agg #[.int .i64 1, .int .i64 bits, .int .i64 base, .int .i64 size, .int .i64 used, .int .i64 frm, .int .i64 badge, .bool full, .int .u64 (word : Int), .int .u64 (d0 : Int), .int .u64 (d1 : Int), .int .u64 (d2 : Int), .int .u64 (d3 : Int)]] w fun e w' => e = .returned (.bool (Tng.mk 1 bits base size used frm badge full word d0 d1 d2 d3).fitp) ∧ Below w.heap.size w w' := by
  have HG : Hid ((Tng.mk 1 bits base size used frm badge full word d0 d1 d2 d3).fitp = (inr3 size 1 4096 && inr3 used 0 size)) := Lib.hid rfl
  generalize (Tng.mk 1 bits base size used frm badge full word d0 d1 d2 d3).fitp = g at HG ⊢
  rcases h1 : inr3 size 1 4096 with _ | _
  · have H1 := Lib.hid h1
    have HF : Hid (g = false) := Lib.hid (by rw [HG.out, H1.out]; rfl)
    clear h1
    go_enter Tryz.func145, Tryz.ntmps145
    go_wp2_with ((go_at_call 154; ((with_reducible refine (sizefits_at H1.out _).mono ?_); rintro e w' ⟨rfl, rfl⟩)))
    go_ret
    exact ⟨by rw [HF.out]; rfl, below_alloc _ _⟩
  have H1 := Lib.hid h1
  clear h1
  by_cases h2 : 0 ≤ used
  · by_cases h3 : used ≤ size
    · have HF : Hid (g = true) := Lib.hid (by rw [HG.out, H1.out, inr3_iff.2 ⟨h2, h3⟩]; rfl)
      go_enter Tryz.func145, Tryz.ntmps145
      go_wp2_with ((go_at_call 154; ((with_reducible refine (sizefits_at H1.out _).mono ?_); rintro e w' ⟨rfl, rfl⟩)))
      go_ret
      exact ⟨by rw [HF.out]; rfl, below_alloc _ _⟩
    · have HF : Hid (g = false) := Lib.hid (by rw [HG.out, H1.out, Bool.eq_false_iff.2 fun e => h3 (inr3_iff.1 e).2]; rfl)
      have hd : decide (used ≤ size) = false := decide_eq_false h3
      go_enter Tryz.func145, Tryz.ntmps145
      go_wp2_with ((go_at_call 154; ((with_reducible refine (sizefits_at H1.out _).mono ?_); rintro e w' ⟨rfl, rfl⟩)))
      go_ret
      exact ⟨by rw [HF.out]; rfl, below_alloc _ _⟩
  · have HF : Hid (g = false) := Lib.hid (by rw [HG.out, H1.out, Bool.eq_false_iff.2 fun e => h2 (inr3_iff.1 e).1]; rfl)
    go_enter Tryz.func145, Tryz.ntmps145
    go_wp2_with ((go_at_call 154; ((with_reducible refine (sizefits_at H1.out _).mono ?_); rintro e w' ⟨rfl, rfl⟩)))
    go_ret
    exact ⟨by rw [HF.out]; rfl, below_alloc _ _⟩
set_option maxHeartbeats 4000000 in
theorem tfits0 (ty : Int) (bits base size used frm badge : Int) (full : Bool) (word d0 d1 d2 d3 : Nat) (k1 : ¬ ty = 1) (k2 : ¬ ty = 2) (w : World) :
    Calls Tryz.prog 145 #[.agg #[.int .i64 ty, .int .i64 bits, .int .i64 base, .int .i64 size, .int .i64 used, .int .i64 frm, .int .i64 badge, .bool full, .int .u64 (word : Int), .int .u64 (d0 : Int), .int .u64 (d1 : Int), .int .u64 (d2 : Int), .int .u64 (d3 : Int)]] w fun e w' => e = .returned (.bool (Tng.mk ty bits base size used frm badge full word d0 d1 d2 d3).fitp) ∧ Below w.heap.size w w' := by
  have HG : Hid ((Tng.mk ty bits base size used frm badge full word d0 d1 d2 d3).fitp = (inr3 badge 0 65535 && inr3 frm 0 96)) := Lib.hid (by unfold Tng.fitp; rw [if_neg k1, if_neg k2])
  generalize (Tng.mk ty bits base size used frm badge full word d0 d1 d2 d3).fitp = g at HG ⊢
  by_cases h1 : 0 ≤ badge
  · by_cases h2 : badge ≤ 65535
    · by_cases h3 : 0 ≤ frm
      · by_cases h4 : frm ≤ 96
        ·
          have HF : Hid (g = true) := Lib.hid (by rw [HG.out, inr3_iff.2 ⟨h1, h2⟩, inr3_iff.2 ⟨h3, h4⟩]; rfl)
          go_enter Tryz.func145, Tryz.ntmps145
          go_wp2
          go_ret
          exact ⟨by rw [HF.out]; rfl, below_alloc _ _⟩
        ·
          have HF : Hid (g = false) := Lib.hid (by rw [HG.out, Bool.eq_false_iff.2 fun e : inr3 frm 0 96 = true => h4 (inr3_iff.1 e).2]; simp)
          go_enter Tryz.func145, Tryz.ntmps145
          go_wp2
          go_ret
          exact ⟨by rw [HF.out]; rfl, below_alloc _ _⟩
      ·
        have HF : Hid (g = false) := Lib.hid (by rw [HG.out, Bool.eq_false_iff.2 fun e : inr3 frm 0 96 = true => h3 (inr3_iff.1 e).1]; simp)
        go_enter Tryz.func145, Tryz.ntmps145
        go_wp2
        go_ret
        exact ⟨by rw [HF.out]; rfl, below_alloc _ _⟩
    ·
      have HF : Hid (g = false) := Lib.hid (by rw [HG.out, Bool.eq_false_iff.2 fun e : inr3 badge 0 65535 = true => h2 (inr3_iff.1 e).2]; rfl)
      go_enter Tryz.func145, Tryz.ntmps145
      go_wp2
      go_ret
      exact ⟨by rw [HF.out]; rfl, below_alloc _ _⟩
  ·
    have HF : Hid (g = false) := Lib.hid (by rw [HG.out, Bool.eq_false_iff.2 fun e : inr3 badge 0 65535 = true => h1 (inr3_iff.1 e).1]; rfl)
    go_enter Tryz.func145, Tryz.ntmps145
    go_wp2
    go_ret
    exact ⟨by rw [HF.out]; rfl, below_alloc _ _⟩
set_option maxHeartbeats 4000000 in
theorem tfits2 (bits base size used frm badge : Int) (full : Bool) (word d0 d1 d2 d3 : Nat) (w : World) :
    Calls Tryz.prog 145 #[.agg #[.int .i64 2, .int .i64 bits, .int .i64 base, .int .i64 size, .int .i64 used, .int .i64 frm, .int .i64 badge, .bool full, .int .u64 (word : Int), .int .u64 (d0 : Int), .int .u64 (d1 : Int), .int .u64 (d2 : Int), .int .u64 (d3 : Int)]] w fun e w' => e = .returned (.bool (Tng.mk 2 bits base size used frm badge full word d0 d1 d2 d3).fitp) ∧ Below w.heap.size w w' := by
  have HG : Hid ((Tng.mk 2 bits base size used frm badge full word d0 d1 d2 d3).fitp = (inr3 bits 1 4 && inr3 base 0 (96 - tw2 bits))) := Lib.hid rfl
  generalize (Tng.mk 2 bits base size used frm badge full word d0 d1 d2 d3).fitp = g at HG ⊢
  rcases h1 : inr3 bits 1 4 with _ | _
  · have H1 := Lib.hid h1
    have HF : Hid (g = false) := Lib.hid (by rw [HG.out, H1.out]; rfl)
    clear h1
    have hK := Tbx.new w (Tng.mk 2 bits base size used frm badge full word d0 d1 d2 d3) 67
    unfold tcells at hK
    go_enter Tryz.func145, Tryz.ntmps145
    go_wp2_with fail
    generalize w.alloc _ = w1 at hK ⊢
    have HO := Lib.hid hK.old
    obtain ⟨c0, c1, c2, c3, c4, c5, c6, c7, c8, c9, c10, c11, c12, _, _, _, lt⟩ := hK
    simp only at c0 c1 c2 c3 c4 c5 c6 c7 c8 c9 c10 c11 c12
    go_wp2_with fail
    go_quiet ((first | (go_at_call 155; with_reducible refine Calls.quiet_of_same (bitsfit_at H1.out _))))
    go_wp2
    go_ret
    exact ⟨by rw [HF.out]; rfl, below_draws HO.out _⟩
  have hb := inr3_iff.1 h1
  have h16 : 1 ≤ tw2 bits ∧ tw2 bits ≤ 16 := by
    obtain ⟨k, rfl⟩ : ∃ k : Nat, bits = k := ⟨bits.toNat, by omega⟩
    have : k = 1 ∨ k = 2 ∨ k = 3 ∨ k = 4 := by omega
    rcases this with rfl | rfl | rfl | rfl <;> decide
  have H1 := Lib.hid h1
  obtain ⟨q, hq⟩ : ∃ q, tw2 bits = q := ⟨_, rfl⟩
  rw [hq] at h16 HG
  obtain ⟨h5, h6⟩ := h16
  have HQ := Lib.hid hq
  clear h1 hb hq
  by_cases h2 : 0 ≤ base
  · by_cases h3 : base ≤ 96 - q
    · have HF : Hid (g = true) := Lib.hid (by rw [HG.out, H1.out, inr3_iff.2 ⟨h2, h3⟩]; rfl)
      have hK := Tbx.new w (Tng.mk 2 bits base size used frm badge full word d0 d1 d2 d3) 67
      unfold tcells at hK
      go_enter Tryz.func145, Tryz.ntmps145
      go_wp2_with fail
      generalize w.alloc _ = w1 at hK ⊢
      have HO := Lib.hid hK.old
      obtain ⟨c0, c1, c2, c3, c4, c5, c6, c7, c8, c9, c10, c11, c12, _, _, _, lt⟩ := hK
      simp only at c0 c1 c2 c3 c4 c5 c6 c7 c8 c9 c10 c11 c12
      go_wp2_with fail
      go_quiet ((first | (go_at_call 155; with_reducible refine Calls.quiet_of_same (bitsfit_at H1.out _)) | (go_at_call 156; with_reducible refine Calls.quiet_of_same (tslots_at H1.out HQ.out _))))
      go_wp2
      go_ret
      exact ⟨by rw [HF.out]; rfl, below_draws HO.out _⟩
    · have HF : Hid (g = false) := Lib.hid (by rw [HG.out, H1.out, Bool.eq_false_iff.2 fun e => h3 (inr3_iff.1 e).2]; rfl)
      have hd : decide (base ≤ 96 - q) = false := decide_eq_false h3
      have hK := Tbx.new w (Tng.mk 2 bits base size used frm badge full word d0 d1 d2 d3) 67
      unfold tcells at hK
      go_enter Tryz.func145, Tryz.ntmps145
      go_wp2_with fail
      generalize w.alloc _ = w1 at hK ⊢
      have HO := Lib.hid hK.old
      obtain ⟨c0, c1, c2, c3, c4, c5, c6, c7, c8, c9, c10, c11, c12, _, _, _, lt⟩ := hK
      simp only at c0 c1 c2 c3 c4 c5 c6 c7 c8 c9 c10 c11 c12
      go_wp2_with fail
      go_quiet ((first | (go_at_call 155; with_reducible refine Calls.quiet_of_same (bitsfit_at H1.out _)) | (go_at_call 156; with_reducible refine Calls.quiet_of_same (tslots_at H1.out HQ.out _))))
      go_wp2
      go_ret
      exact ⟨by rw [HF.out]; rfl, below_draws HO.out _⟩
  · have HF : Hid (g = false) := Lib.hid (by rw [HG.out, H1.out, Bool.eq_false_iff.2 fun e => h2 (inr3_iff.1 e).1]; rfl)
    have hd : decide (0 ≤ base) = false := decide_eq_false h2
    have hK := Tbx.new w (Tng.mk 2 bits base size used frm badge full word d0 d1 d2 d3) 67
    unfold tcells at hK
    go_enter Tryz.func145, Tryz.ntmps145
    go_wp2_with fail
    generalize w.alloc _ = w1 at hK ⊢
    have HO := Lib.hid hK.old
    obtain ⟨c0, c1, c2, c3, c4, c5, c6, c7, c8, c9, c10, c11, c12, _, _, _, lt⟩ := hK
    simp only at c0 c1 c2 c3 c4 c5 c6 c7 c8 c9 c10 c11 c12
    go_wp2_with fail
    go_quiet ((first | (go_at_call 155; with_reducible refine Calls.quiet_of_same (bitsfit_at H1.out _))))
    go_wp2
    go_ret
    exact ⟨by rw [HF.out]; rfl, below_draws HO.out _⟩
theorem tfits_any (t : Tng) (w : World) : Calls Tryz.prog 145 #[t.val] w fun e w' => e = .returned (.bool t.fitp) ∧ Below w.heap.size w w' := by
  obtain ⟨ty, bits, base, size, used, frm, badge, full, word, d0, d1, d2, d3⟩ := t
  by_cases k1 : ty = 1
  · subst k1
    exact tfits1 bits base size used frm badge full word d0 d1 d2 d3 w
  by_cases k2 : ty = 2
  · subst k2
    exact tfits2 bits base size used frm badge full word d0 d1 d2 d3 w
  · exact tfits0 ty bits base size used frm badge full word d0 d1 d2 d3 k1 k2 w
end Go.Proofs.YtkpbfbmkolgmgaaGreat
namespace Go.Proofs.YtkpbfbmkolgmgaaGreat
open Go.RowKit

theorem Tbx.drew {W w : World} {g : Nat} {t : Tng} (h : Tbx W w g t) : Tbx W w.drew g t := h.on (below_self w).drew
theorem Tbx.drewN {W w : World} {g : Nat} {t : Tng} (h : Tbx W w g t) (k : Nat) : Tbx W (w.drewN k) g t := h.on (below_draws (below_self w) k)
/-- a thing's box, cell by cell, behind a call -/
theorem Tbx.ons {W v w' : World} {g : Nat} {ty bits base size used frm badge : Int} {full : Bool} {word d0 d1 d2 d3 : Nat} (h : Tbx W v g (Tng.mk ty bits base size used frm badge full word d0 d1 d2 d3)) (hb : Below v.heap.size v w') : w'.cell? ⟨g, 0, none⟩ = some (.int .i64 ty) ∧ w'.cell? ⟨g, 1, none⟩ = some (.int .i64 bits) ∧ w'.cell? ⟨g, 2, none⟩ = some (.int .i64 base) ∧ w'.cell? ⟨g, 3, none⟩ = some (.int .i64 size) ∧ w'.cell? ⟨g, 4, none⟩ = some (.int .i64 used) ∧ w'.cell? ⟨g, 5, none⟩ = some (.int .i64 frm) ∧ w'.cell? ⟨g, 6, none⟩ = some (.int .i64 badge) ∧ w'.cell? ⟨g, 7, none⟩ = some (.bool full) ∧ w'.cell? ⟨g, 8, none⟩ = some (.int .u64 (word : Int)) ∧ w'.cell? ⟨g, 9, none⟩ = some (.int .u64 (d0 : Int)) ∧ w'.cell? ⟨g, 10, none⟩ = some (.int .u64 (d1 : Int)) ∧ w'.cell? ⟨g, 11, none⟩ = some (.int .u64 (d2 : Int)) ∧ w'.cell? ⟨g, 12, none⟩ = some (.int .u64 (d3 : Int)) ∧ Tbx W w' g (Tng.mk ty bits base size used frm badge full word d0 d1 d2 d3) :=
  have k := h.on hb
  ⟨k.c0, k.c1, k.c2, k.c3, k.c4, k.c5, k.c6, k.c7, k.c8, k.c9, k.c10, k.c11, k.c12, k⟩
theorem kind_tb {W v : World} {g : Nat} {ty bits base size used frm badge : Int} {full : Bool} {word d0 d1 d2 d3 : Nat} {s : Value} (h : Tbx W v g (Tng.mk ty bits base size used frm badge full word d0 d1 d2 d3)) (hk : Hid ((Tng.mk ty bits base size used frm badge full word d0 d1 d2 d3).kin.val = s)) :
    Calls Tryz.prog 144 #[.agg #[.int .i64 ty, .int .i64 bits, .int .i64 base, .int .i64 size, .int .i64 used, .int .i64 frm, .int .i64 badge, .bool full, .int .u64 (word : Int), .int .u64 (d0 : Int), .int .u64 (d1 : Int), .int .u64 (d2 : Int), .int .u64 (d3 : Int)]] v fun e w' => e = .returned s ∧ w'.cell? ⟨g, 0, none⟩ = some (.int .i64 ty) ∧ w'.cell? ⟨g, 1, none⟩ = some (.int .i64 bits) ∧ w'.cell? ⟨g, 2, none⟩ = some (.int .i64 base) ∧ w'.cell? ⟨g, 3, none⟩ = some (.int .i64 size) ∧ w'.cell? ⟨g, 4, none⟩ = some (.int .i64 used) ∧ w'.cell? ⟨g, 5, none⟩ = some (.int .i64 frm) ∧ w'.cell? ⟨g, 6, none⟩ = some (.int .i64 badge) ∧ w'.cell? ⟨g, 7, none⟩ = some (.bool full) ∧ w'.cell? ⟨g, 8, none⟩ = some (.int .u64 (word : Int)) ∧ w'.cell? ⟨g, 9, none⟩ = some (.int .u64 (d0 : Int)) ∧ w'.cell? ⟨g, 10, none⟩ = some (.int .u64 (d1 : Int)) ∧ w'.cell? ⟨g, 11, none⟩ = some (.int .u64 (d2 : Int)) ∧ w'.cell? ⟨g, 12, none⟩ = some (.int .u64 (d3 : Int)) ∧ Tbx W w' g (Tng.mk ty bits base size used frm badge full word d0 d1 d2 d3) := by
  refine (kind_any (Tng.mk ty bits base size used frm badge full word d0 d1 d2 d3) v).mono ?_
  rintro e w' ⟨rfl, hb⟩
  rw [hk.out]
  exact ⟨rfl, h.ons hb⟩
theorem fits_tb {W v : World} {g : Nat} {ty bits base size used frm badge : Int} {full : Bool} {word d0 d1 d2 d3 : Nat} {f : Bool} (h : Tbx W v g (Tng.mk ty bits base size used frm badge full word d0 d1 d2 d3)) (hf : Hid ((Tng.mk ty bits base size used frm badge full word d0 d1 d2 d3).fitp = f)) :
    Calls Tryz.prog 145 #[.agg #[.int .i64 ty, .int .i64 bits, .int .i64 base, .int .i64 size, .int .i64 used, .int .i64 frm, .int .i64 badge, .bool full, .int .u64 (word : Int), .int .u64 (d0 : Int), .int .u64 (d1 : Int), .int .u64 (d2 : Int), .int .u64 (d3 : Int)]] v fun e w' => e = .returned (.bool f) ∧ w'.cell? ⟨g, 0, none⟩ = some (.int .i64 ty) ∧ w'.cell? ⟨g, 1, none⟩ = some (.int .i64 bits) ∧ w'.cell? ⟨g, 2, none⟩ = some (.int .i64 base) ∧ w'.cell? ⟨g, 3, none⟩ = some (.int .i64 size) ∧ w'.cell? ⟨g, 4, none⟩ = some (.int .i64 used) ∧ w'.cell? ⟨g, 5, none⟩ = some (.int .i64 frm) ∧ w'.cell? ⟨g, 6, none⟩ = some (.int .i64 badge) ∧ w'.cell? ⟨g, 7, none⟩ = some (.bool full) ∧ w'.cell? ⟨g, 8, none⟩ = some (.int .u64 (word : Int)) ∧ w'.cell? ⟨g, 9, none⟩ = some (.int .u64 (d0 : Int)) ∧ w'.cell? ⟨g, 10, none⟩ = some (.int .u64 (d1 : Int)) ∧ w'.cell? ⟨g, 11, none⟩ = some (.int .u64 (d2 : Int)) ∧ w'.cell? ⟨g, 12, none⟩ = some (.int .u64 (d3 : Int)) ∧ Tbx W w' g (Tng.mk ty bits base size used frm badge full word d0 d1 d2 d3) := by
  refine (tfits_any (Tng.mk ty bits base size used frm badge full word d0 d1 d2 d3) v).mono ?_
  rintro e w' ⟨rfl, hb⟩
  rw [hf.out]
  exact ⟨rfl, h.ons hb⟩
set_option maxHeartbeats 4000000 in
theorem goodt_any (t : Tng) (w : World) : Calls Tryz.prog 81 #[t.val] w fun e w' => e = .returned (.bool t.good) ∧ Below w.heap.size w w' := by
  have hK := Tbx.new w t 67
  have hq := good_code t
  have he := fun w => teq26 t t.kin w
  obtain ⟨f, hf⟩ : ∃ f, t.fitp = f := ⟨_, rfl⟩
  obtain ⟨s, hs⟩ : ∃ s, t.kin = s := ⟨_, rfl⟩
  rw [hf, hs] at hq
  rw [hs] at he
  generalize t.good = g at hq ⊢
  generalize t.eq s = z at hq he
  obtain ⟨ty, bits, base, size, used, frm, badge, full, word, d0, d1, d2, d3⟩ := t
  obtain ⟨ty', bits', base', size', used', frm', badge', full', word', e0, e1, e2, e3⟩ := s
  have hk : (Tng.mk ty bits base size used frm badge full word d0 d1 d2 d3).kin.val = .agg #[.int .i64 ty', .int .i64 bits', .int .i64 base', .int .i64 size', .int .i64 used', .int .i64 frm', .int .i64 badge', .bool full', .int .u64 (word' : Int), .int .u64 (e0 : Int), .int .u64 (e1 : Int), .int .u64 (e2 : Int), .int .u64 (e3 : Int)] := by rw [hs]; rfl
  have HK := Lib.hid hk
  have HF := Lib.hid hf
  have HQ := Lib.hid hq
  clear hk hf hq hs
  unfold tcells at hK
  unfold Tng.val at he ⊢
  simp only at he hK ⊢
  cases z
  ·
    go_enter Tryz.func81, Tryz.ntmps81
    go_wp2_with fail
    generalize w.alloc _ = w1 at hK ⊢
    obtain ⟨c0, c1, c2, c3, c4, c5, c6, c7, c8, c9, c10, c11, c12, hT⟩ := hK.drew.ons (below_self _)
    clear hK
    go_wp2_with fail
    go_region_with (go_at_call 144; ((with_reducible refine (kind_tb (by with_reducible assumption) (by with_reducible assumption)).mono ?_); rintro e w' ⟨rfl, y0, y1, y2, y3, y4, y5, y6, y7, y8, y9, y10, y11, y12, y13⟩))
    all_goals go_wp2
    all_goals go_ret
    all_goals exact ⟨by rw [HQ.out]; rfl, y13.old⟩
  ·
    go_enter Tryz.func81, Tryz.ntmps81
    go_wp2_with fail
    generalize w.alloc _ = w1 at hK ⊢
    obtain ⟨c0, c1, c2, c3, c4, c5, c6, c7, c8, c9, c10, c11, c12, hT⟩ := hK.drew.ons (below_self _)
    clear hK
    go_wp2_with fail
    go_region_held3 (fun w' => w'.cell? ⟨w.heap.size, 0, none⟩ = some (.int .i64 ty) ∧ w'.cell? ⟨w.heap.size, 1, none⟩ = some (.int .i64 bits) ∧ w'.cell? ⟨w.heap.size, 2, none⟩ = some (.int .i64 base) ∧ w'.cell? ⟨w.heap.size, 3, none⟩ = some (.int .i64 size) ∧ w'.cell? ⟨w.heap.size, 4, none⟩ = some (.int .i64 used) ∧ w'.cell? ⟨w.heap.size, 5, none⟩ = some (.int .i64 frm) ∧ w'.cell? ⟨w.heap.size, 6, none⟩ = some (.int .i64 badge) ∧ w'.cell? ⟨w.heap.size, 7, none⟩ = some (.bool full) ∧ w'.cell? ⟨w.heap.size, 8, none⟩ = some (.int .u64 (word : Int)) ∧ w'.cell? ⟨w.heap.size, 9, none⟩ = some (.int .u64 (d0 : Int)) ∧ w'.cell? ⟨w.heap.size, 10, none⟩ = some (.int .u64 (d1 : Int)) ∧ w'.cell? ⟨w.heap.size, 11, none⟩ = some (.int .u64 (d2 : Int)) ∧ w'.cell? ⟨w.heap.size, 12, none⟩ = some (.int .u64 (d3 : Int)) ∧ Tbx w w' w.heap.size (Tng.mk ty bits base size used frm badge full word d0 d1 d2 d3))
      (exact ⟨by with_reducible assumption, by with_reducible assumption, by with_reducible assumption, by with_reducible assumption, by with_reducible assumption, by with_reducible assumption, by with_reducible assumption, by with_reducible assumption, by with_reducible assumption, by with_reducible assumption, by with_reducible assumption, by with_reducible assumption, by with_reducible assumption, by with_reducible assumption⟩)
      (first | (go_at_call 144; ((with_reducible refine (kind_tb (by with_reducible assumption) (by with_reducible assumption)).mono ?_); rintro e w' ⟨rfl, y0, y1, y2, y3, y4, y5, y6, y7, y8, y9, y10, y11, y12, y13⟩)) | (go_at_call 145; ((with_reducible refine (fits_tb (by with_reducible assumption) (by with_reducible assumption)).mono ?_); rintro e w' ⟨rfl, y0, y1, y2, y3, y4, y5, y6, y7, y8, y9, y10, y11, y12, y13⟩)))
    all_goals go_wp2
    all_goals go_ret
    all_goals exact ⟨by rw [HQ.out]; rfl, y13.old⟩
end Go.Proofs.YtkpbfbmkolgmgaaGreat
namespace Go.Proofs.YtkpbfbmkolgmgaaGreat
open Go.RowKit

/-- those of the first i places that are picked -/
def pick (p : Nat → Bool) (i : Nat) : List Nat := (List.range i).filter p
theorem pick_yes {p : Nat → Bool} {i : Nat} (h : p i = true) : pick p (i + 1) = pick p i ++ [i] := by
  rw [pick, List.range_succ, List.filter_append, pick, List.filter_cons_of_pos h]
  rfl
theorem pick_no {p : Nat → Bool} {i : Nat} (h : p i = false) : pick p (i + 1) = pick p i := by
  rw [pick, List.range_succ, List.filter_append, pick, List.filter_cons_of_neg (by rw [h]; decide)]
  simp
theorem pick_len (p : Nat → Bool) (i : Nat) : (pick p i).length ≤ i := by
  have := List.length_filter_le p (List.range i)
  rwa [List.length_range] at this
theorem toInts_append (a b : List Nat) : toInts (a ++ b) = toInts a ++ toInts b := List.map_append
theorem toInts_length (a : List Nat) : (toInts a).length = a.length := List.length_map _

end Go.Proofs.YtkpbfbmkolgmgaaGreat
namespace Go.Proofs.YtkpbfbmkolgmgaaGreat
open Go.RowKit

/-- a call that hands back a list -/
def ListF (w w' : World) (e : Ending) (L : List Int) : Prop := ∃ B cb, e = .returned (.slice B L.length cb) ∧ L.length ≤ cb ∧ IntsAt w' w'.heap.size B L ∧ Below w.heap.size w w'
/-- a call that hands back a forest, and whether it is one -/
def GivesF (w w' : World) (e : Ending) (r : Option (List Int)) : Prop := ∃ B cb, e = .returned (.tuple #[.agg #[.slice B (r.getD []).length cb], .bool r.isSome]) ∧ (r.getD []).length ≤ cb ∧ IntsAt w' w'.heap.size B (r.getD []) ∧ Below w.heap.size w w'
end Go.Proofs.YtkpbfbmkolgmgaaGreat
namespace Go.Proofs.YtkpbfbmkolgmgaaGreat

/-- what is reached from a place along pairs -/
inductive Rch (E : List (Nat × Nat)) (a : Nat) : Nat → Prop where
  | self : Rch E a a
  | step {x y : Nat} : Rch E a x → (x, y) ∈ E → Rch E a y
/-- one pair after the other: what has its first has its second -/
def kcome (s : Nat → Bool) (e : Nat × Nat) : Nat → Bool := if s e.1 = true then fun k => k == e.2 || s k else s
def kround (E : List (Nat × Nat)) (s : Nat → Bool) : Nat → Bool := E.foldl kcome s
def krounds (E : List (Nat × Nat)) : Nat → (Nat → Bool) → Nat → Bool
  | 0, s => s
  | m + 1, s => krounds E m (kround E s)
def kstart (a : Nat) : Nat → Bool := fun k => k == a
theorem krounds_succ (E : List (Nat × Nat)) : ∀ (m : Nat) (s : Nat → Bool), krounds E (m + 1) s = kround E (krounds E m s)
  | 0, _ => rfl
  | m + 1, s => by rw [krounds, krounds_succ E m, krounds]
theorem kcome_le {s : Nat → Bool} {e : Nat × Nat} {k : Nat} (h : s k = true) : kcome s e k = true := by
  unfold kcome
  split
  · simp [h]
  · exact h
theorem kround_le : ∀ (E : List (Nat × Nat)) {s : Nat → Bool} {k : Nat}, s k = true → kround E s k = true
  | [], _, _, h => h
  | _ :: E, _, _, h => kround_le E (kcome_le h)
theorem kround_has : ∀ (E : List (Nat × Nat)) {s : Nat → Bool} {e : Nat × Nat}, e ∈ E → s e.1 = true → kround E s e.2 = true
  | f :: E, s, e, he, h => by
    rcases List.mem_cons.1 he with rfl | he
    · exact kround_le E (by unfold kcome; rw [if_pos h]; simp)
    · exact kround_has E he (kcome_le h)
theorem kround_reach (a : Nat) (E0 : List (Nat × Nat)) : ∀ (E : List (Nat × Nat)), (∀ e ∈ E, e ∈ E0) → ∀ {s : Nat → Bool}, (∀ k, s k = true → Rch E0 a k) → ∀ k, kround E s k = true → Rch E0 a k
  | [], _, _, h, k, q => h k q
  | e :: E, hE, s, h, k, q => by
    refine kround_reach a E0 E (fun x hx => hE x (List.mem_cons_of_mem _ hx)) (s := kcome s e) (fun j hj => ?_) k q
    unfold kcome at hj
    split at hj
    · rename_i h1
      rcases Bool.or_eq_true _ _ ▸ hj with h2 | h2
      · rw [beq_iff_eq.1 h2]
        exact .step (h _ h1) (hE e (List.mem_cons_self ..))
      · exact h j h2
    · exact h j hj
def Kshut (E : List (Nat × Nat)) (s : Nat → Bool) : Prop := ∀ e ∈ E, s e.1 = true → s e.2 = true
theorem kround_shut : ∀ {E : List (Nat × Nat)} {s : Nat → Bool}, Kshut E s → kround E s = s
  | [], _, _ => rfl
  | e :: E, s, h => by
    have hc : kcome s e = s := by
      unfold kcome
      split
      · rename_i h1
        have h2 := h e (List.mem_cons_self ..) h1
        funext k
        rcases Decidable.em (k = e.2) with rfl | hk
        · simp [h2]
        · simp [hk]
      · rfl
    show kround E (kcome s e) = s
    rw [hc]
    exact kround_shut fun x hx => h x (List.mem_cons_of_mem _ hx)
def kmany (n : Nat) (s : Nat → Bool) : Nat := ((List.range n).filter s).length
theorem kmany_le (n : Nat) (s : Nat → Bool) : kmany n s ≤ n := by
  have := List.length_filter_le s (List.range n)
  rwa [List.length_range] at this
theorem kfilter_lt {l : List Nat} {s t : Nat → Bool} (h : ∀ k, s k = true → t k = true) : (l.filter s).length ≤ (l.filter t).length := by
  induction l with
  | nil => exact Nat.le_refl _
  | cons x l ih =>
    cases hs : s x with
    | true => rw [List.filter_cons_of_pos hs, List.filter_cons_of_pos (h x hs), List.length_cons, List.length_cons]; omega
    | false =>
      rw [List.filter_cons_of_neg (by rw [hs]; decide)]
      cases ht : t x with
      | true => rw [List.filter_cons_of_pos ht, List.length_cons]; omega
      | false => rw [List.filter_cons_of_neg (by rw [ht]; decide)]; exact ih
theorem kfilter_more {l : List Nat} {s t : Nat → Bool} (h : ∀ k, s k = true → t k = true) {y : Nat} (hy : y ∈ l) (hs : s y = false) (ht : t y = true) : (l.filter s).length < (l.filter t).length := by
  induction l with
  | nil => cases hy
  | cons x l ih =>
    rcases List.mem_cons.1 hy with rfl | hy
    · rw [List.filter_cons_of_neg (by rw [hs]; decide), List.filter_cons_of_pos ht, List.length_cons]
      have := kfilter_lt (l := l) h
      omega
    · have := ih hy
      cases hsx : s x with
      | true => rw [List.filter_cons_of_pos hsx, List.filter_cons_of_pos (h x hsx), List.length_cons, List.length_cons]; omega
      | false =>
        rw [List.filter_cons_of_neg (by rw [hsx]; decide)]
        cases htx : t x with
        | true => rw [List.filter_cons_of_pos htx, List.length_cons]; omega
        | false => rw [List.filter_cons_of_neg (by rw [htx]; decide)]; exact this
theorem kshut_or {E : List (Nat × Nat)} {n a : Nat} (hE : ∀ e ∈ E, e.2 < n) (ha : a < n) : ∀ m, Kshut E (krounds E m (kstart a)) ∨ m + 1 ≤ kmany n (krounds E m (kstart a))
  | 0 => by
    refine .inr ?_
    have hm : a ∈ (List.range n).filter (kstart a) := List.mem_filter.2 ⟨List.mem_range.2 ha, by simp [kstart]⟩
    have := List.length_pos_of_mem hm
    exact this
  | m + 1 => by
    rw [krounds_succ]
    rcases kshut_or hE ha m with h | h
    · exact .inl (by rw [kround_shut h]; exact h)
    · by_cases hs : Kshut E (krounds E m (kstart a))
      · exact .inl (by rw [kround_shut hs]; exact hs)
      · refine .inr ?_
        obtain ⟨e, he, h1, h2⟩ : ∃ e ∈ E, krounds E m (kstart a) e.1 = true ∧ krounds E m (kstart a) e.2 = false := by
          refine Classical.byContradiction fun q => hs fun e he h1 => ?_
          rcases h2 : krounds E m (kstart a) e.2 with _ | _
          · exact absurd ⟨e, he, h1, h2⟩ q
          · rfl
        have := kfilter_more (l := List.range n) (s := krounds E m (kstart a)) (t := kround E (krounds E m (kstart a))) (fun k => kround_le E) (List.mem_range.2 (hE e he)) h2 (kround_has E he h1)
        unfold kmany at h ⊢
        omega
/-- after as many rounds as there are places: just what is reached -/
theorem krounds_reach {E : List (Nat × Nat)} {n a : Nat} (hE : ∀ e ∈ E, e.2 < n) (ha : a < n) (k : Nat) : krounds E n (kstart a) k = true ↔ Rch E a k := by
  constructor
  · have key : ∀ m k, krounds E m (kstart a) k = true → Rch E a k := by
      intro m
      induction m with
      | zero =>
        intro k h
        rw [beq_iff_eq.1 (show (k == a) = true from h)]
        exact .self
      | succ m ih =>
        intro k h
        rw [krounds_succ] at h
        exact kround_reach a E E (fun _ h => h) ih k h
    exact key n k
  · intro h
    have hs : Kshut E (krounds E n (kstart a)) := by
      rcases kshut_or hE ha n with h | h
      · exact h
      · have := kmany_le n (krounds E n (kstart a))
        omega
    have h0 : ∀ m, krounds E m (kstart a) a = true := by
      intro m
      induction m with
      | zero => simp [krounds, kstart]
      | succ m ih => rw [krounds_succ]; exact kround_le E ih
    induction h with
    | self => exact h0 n
    | step _ he ih => exact hs _ he ih
end Go.Proofs.YtkpbfbmkolgmgaaGreat
namespace Go.Proofs.YtkpbfbmkolgmgaaGreat

/-! ### of each kind so many: all together -/
/-! ### the first free run -/
end Go.Proofs.YtkpbfbmkolgmgaaGreat
namespace Go.Proofs.YtkpbfbmkolgmgaaGreat

/-- what is in a slot, and what it came of -/
structure Sl where
  c : Cp
  up : Int
def Sl.zero : Sl := ⟨.none, 0⟩
/-- a state: how much there is, its slots, its things -/
structure St where
  g : Gd
  sl : List Sl
  th : List Tng
def slAt (l : List Sl) (i : Nat) : Sl := l.getD i .zero
def thAt (l : List Tng) (i : Nat) : Tng := l.getD i .zero
theorem slAt_get {l : List Sl} {i : Nat} (h : i < l.length) : l[i]? = some (slAt l i) := by rw [slAt, List.getD_eq_getElem?_getD, List.getElem?_eq_getElem h]; rfl
theorem thAt_get {l : List Tng} {i : Nat} (h : i < l.length) : l[i]? = some (thAt l i) := by rw [thAt, List.getD_eq_getElem?_getD, List.getElem?_eq_getElem h]; rfl
theorem slAt_at {l : List Sl} {i : Nat} {x : Sl} (h : l[i]? = some x) : slAt l i = x := by rw [slAt, List.getD_eq_getElem?_getD, h]; rfl
theorem thAt_at {l : List Tng} {i : Nat} {x : Tng} (h : l[i]? = some x) : thAt l i = x := by rw [thAt, List.getD_eq_getElem?_getD, h]; rfl
theorem thAt_out {l : List Tng} {i : Nat} (h : l.length ≤ i) : thAt l i = .zero := by rw [thAt, List.getD_eq_getElem?_getD, List.getElem?_eq_none h]; rfl
theorem slAt_range {n : Nat} (f : Nat → Sl) {i : Nat} (h : i < n) : slAt ((List.range n).map f) i = f i := slAt_at (by simp [h])
theorem thAt_range {n : Nat} (f : Nat → Tng) {i : Nat} (h : i < n) : thAt ((List.range n).map f) i = f i := thAt_at (by simp [h])

/-! ### one's own, alike -/
def Gd.eq (a b : Gd) : Bool := a.t == b.t && (a.s == b.s && a.k == b.k)
theorem Gd.eq_iff {a b : Gd} : a.eq b = true ↔ a = b := by
  obtain ⟨⟩ := a
  obtain ⟨⟩ := b
  simp only [Gd.eq, Bool.and_eq_true, beq_iff_eq, Gd.mk.injEq]
theorem Cp.eq_iff {a b : Cp} : a.eq b = true ↔ a = b := by
  obtain ⟨⟩ := a
  obtain ⟨⟩ := b
  simp only [Cp.eq, Bool.and_eq_true, beq_iff_eq, Cp.mk.injEq]
def Sl.eq (a b : Sl) : Bool := a.c.eq b.c && a.up == b.up
theorem Sl.eq_iff {a b : Sl} : a.eq b = true ↔ a = b := by
  obtain ⟨⟩ := a
  obtain ⟨⟩ := b
  simp only [Sl.eq, Bool.and_eq_true, beq_iff_eq, Cp.eq_iff, Sl.mk.injEq]
def alls {α : Type} (e : α → α → Bool) : List α → List α → Bool
  | [], [] => true
  | a :: l, b :: m => e a b && alls e l m
  | _, _ => false
theorem alls_iff {α : Type} {e : α → α → Bool} (he : ∀ {a b}, e a b = true ↔ a = b) : ∀ {l m : List α}, alls e l m = true ↔ l = m
  | [], [] => by simp [alls]
  | [], b :: m => by simp [alls]
  | a :: l, [] => by simp [alls]
  | a :: l, b :: m => by rw [alls, Bool.and_eq_true, he, alls_iff he, List.cons.injEq]
def St.same (a b : St) : Bool := a.g.eq b.g && (alls Sl.eq a.sl b.sl && alls Tng.eq a.th b.th)
theorem St.same_iff {a b : St} : a.same b = true ↔ a = b := by
  obtain ⟨⟩ := a
  obtain ⟨⟩ := b
  simp only [St.same, Bool.and_eq_true, Gd.eq_iff, alls_iff Sl.eq_iff, alls_iff Tng.eq_iff, St.mk.injEq]

/-! ### who has a slot, who holds a thing -/
def upOf (x : Sl) : Int := if x.c.non = true then -2 else x.up
def upsOf (l : List Sl) : List Int := l.map upOf
theorem upsOf_length (l : List Sl) : (upsOf l).length = l.length := List.length_map ..
theorem fu_ups {l : List Sl} {i : Nat} (h : i < l.length) : fu (upsOf l) i = upOf (slAt l i) := fu_at (by rw [upsOf, List.getElem?_map, slAt_get h]; rfl)
def Tng.hasS (t : Tng) (k : Int) : Bool := t.ty == 2 && (decide (t.base ≤ k) && decide (k < t.base + tw2 t.bits))
theorem Tng.hasS_iff {t : Tng} {k : Int} : t.hasS k = true ↔ t.ty = 2 ∧ t.base ≤ k ∧ k < t.base + tw2 t.bits := by simp [Tng.hasS]
def ownerN (th : List Tng) (k : Int) : Option Nat := th.findIdx? fun t => t.hasS k
def optI : Option Nat → Int
  | some i => i
  | none => -1
theorem ownerN_some {th : List Tng} {k : Int} {i : Nat} : ownerN th k = some i ↔ i < th.length ∧ (thAt th i).hasS k = true ∧ ∀ j, j < i → (thAt th j).hasS k = false := by
  rw [ownerN, List.findIdx?_eq_some_iff_getElem]
  constructor
  · rintro ⟨h, h1, h2⟩
    refine ⟨h, by rwa [thAt_at (List.getElem?_eq_getElem h)], fun j hj => ?_⟩
    have := h2 j hj
    rw [thAt_at (List.getElem?_eq_getElem (Nat.lt_trans hj h))]
    simpa using this
  · rintro ⟨h, h1, h2⟩
    refine ⟨h, by rwa [thAt_at (List.getElem?_eq_getElem h)] at h1, fun j hj => ?_⟩
    have := h2 j hj
    rw [thAt_at (List.getElem?_eq_getElem (Nat.lt_trans hj h))] at this
    simpa using this
theorem ownerN_none {th : List Tng} {k : Int} : ownerN th k = none ↔ ∀ j, j < th.length → (thAt th j).hasS k = false := by
  rw [ownerN, List.findIdx?_eq_none_iff]
  constructor
  · exact fun h j hj => h _ (List.mem_of_getElem? (thAt_get hj))
  · intro h x hx
    obtain ⟨j, hj, rfl⟩ := List.getElem_of_mem hx
    have := h j hj
    rwa [thAt_at (List.getElem?_eq_getElem hj)] at this
theorem ownerN_lt {th : List Tng} {k : Int} {i : Nat} (h : ownerN th k = some i) : i < th.length := (ownerN_some.1 h).1
def holds (t : Int) (x : Sl) : Bool := !decide (x.c.ty = 0) && decide (x.c.th = t)
def holdN (sl : List Sl) (t : Int) : List Nat := (List.range sl.length).filter fun i => holds t (slAt sl i)
theorem mem_holdN {sl : List Sl} {t : Int} {i : Nat} : i ∈ holdN sl t ↔ i < sl.length ∧ (slAt sl i).c.ty ≠ 0 ∧ (slAt sl i).c.th = t := by
  simp [holdN, holds]
/-! ### Nodes in Nodes -/
def edgeOf (th : List Tng) (sl : List Sl) (i : Nat) : Option (Nat × Nat) := if (slAt sl i).c.ty = 2 then (ownerN th i).map fun o => (o, (slAt sl i).c.th.toNat) else none
def edgesN (th : List Tng) (sl : List Sl) : List (Nat × Nat) := (List.range sl.length).filterMap (edgeOf th sl)
theorem mem_edges {th : List Tng} {sl : List Sl} {e : Nat × Nat} : e ∈ edgesN th sl ↔ ∃ i, i < sl.length ∧ (slAt sl i).c.ty = 2 ∧ ownerN th i = some e.1 ∧ (slAt sl i).c.th.toNat = e.2 := by
  simp only [edgesN, List.mem_filterMap, List.mem_range, edgeOf]
  constructor
  · rintro ⟨i, h, h1⟩
    split at h1
    · rename_i h2
      rw [Option.map_eq_some_iff] at h1
      obtain ⟨o, h3, h4⟩ := h1
      exact ⟨i, h, h2, by rw [h3, ← h4], by rw [← h4]⟩
    · cases h1
  · rintro ⟨i, h, h1, h2, h3⟩
    refine ⟨i, h, ?_⟩
    rw [if_pos h1, h2, Option.map_some, h3]
def underN (s : St) (a : Nat) : Nat → Bool := krounds (edgesN s.th s.sl) s.th.length (kstart a)
def ringN (s : St) (a : Nat) : Bool := (edgesN s.th s.sl).any fun e => e.1 == a && underN s e.2 a

/-! ### which may be -/
def Tng.meets (t u : Tng) : Bool := t.ty == 2 && (u.ty == 2 && (decide (t.base < u.base + tw2 u.bits) && decide (u.base < t.base + tw2 t.bits)))
def rootT (t : Int) : Tng := ⟨2, 3, 8 * t, 0, 0, 0, 0, false, 0, 0, 0, 0, 0⟩
def St.k1 (s : St) : Bool := s.g.ok && (decide ((s.sl.length : Int) = s.g.s) && decide ((s.th.length : Int) = s.g.k))
def St.fits2 (s : St) (t : Tng) : Bool := !(t.ty == 2 && decide (s.g.s < t.base + tw2 t.bits))
def St.from2 (s : St) (t : Tng) : Bool := !(decide (0 < t.frm) && (decide (s.g.s < t.frm) || (slAt s.sl (t.frm - 1).toNat).c.non))
def St.k2 (s : St) (i : Nat) : Bool := (thAt s.th i).good && (s.fits2 (thAt s.th i) && (((List.range i).all fun k => !(thAt s.th i).meets (thAt s.th k)) && s.from2 (thAt s.th i)))
def St.k3 (s : St) (t : Nat) : Bool := (thAt s.th (2 + t)).eq (rootT t)
def St.thing4 (s : St) (c : Cp) : Bool := decide (c.th < s.th.length) && (thAt s.th c.th.toNat).ty == c.ty
def St.k4 (s : St) (i : Nat) : Bool := (slAt s.sl i).c.good && (if (slAt s.sl i).c.ty = 0 then (slAt s.sl i).up == -1 else s.thing4 (slAt s.sl i).c && (ownerN s.th i).isSome)
def St.k5 (s : St) : Bool := fgood (upsOf s.sl)
def cameOk (c p : Cp) : Bool := c.less p || (p.ty == 1 && !(p.th == c.th))
def St.k6 (s : St) (i : Nat) : Bool := decide ((slAt s.sl i).c.ty = 0) || (decide (-1 ≤ (slAt s.sl i).up) && (decide ((slAt s.sl i).up < 0) || cameOk (slAt s.sl i).c (slAt s.sl (slAt s.sl i).up.toNat).c))
def St.root (s : St) (i : Nat) : Bool := decide (2 ≤ i) && decide ((i : Int) < 2 + s.g.t)
def St.k7 (s : St) (i : Nat) : Bool := !(!decide ((thAt s.th i).ty = 0) && (!s.root i && (holdN s.sl i).isEmpty)) && !(decide ((thAt s.th i).ty = 2) && ringN s i)
def sgood (s : St) : Bool := s.k1 && ((List.range s.th.length).all s.k2 && ((List.range s.g.t.toNat).all s.k3 && ((List.range s.sl.length).all s.k4 && (s.k5 && ((List.range s.sl.length).all s.k6 && (List.range s.th.length).all s.k7)))))
/-- the same, to work with -/
structure Gst (s : St) : Prop where
  k1 : s.k1 = true
  k2 : ∀ i, i < s.th.length → s.k2 i = true
  k3 : ∀ t : Nat, (t : Int) < s.g.t → s.k3 t = true
  k4 : ∀ i, i < s.sl.length → s.k4 i = true
  k5 : s.k5 = true
  k6 : ∀ i, i < s.sl.length → s.k6 i = true
  k7 : ∀ i, i < s.th.length → s.k7 i = true
theorem sgood_iff {s : St} : sgood s = true ↔ Gst s := by
  simp only [sgood, Bool.and_eq_true, List.all_eq_true, List.mem_range]
  constructor
  · rintro ⟨h1, h2, h3, h4, h5, h6, h7⟩
    exact ⟨h1, h2, fun t h => h3 t (by omega), h4, h5, h6, h7⟩
  · rintro ⟨h1, h2, h3, h4, h5, h6, h7⟩
    exact ⟨h1, h2, fun t h => h3 t (by omega), h4, h5, h6, h7⟩
/-! ### what is told of one -/
def sowner (s : St) (k : Int) : Option Nat := if sgood s = true then ownerN s.th k else none
def insideN (s : St) (node slot : Int) : Bool := decide (0 ≤ node) && (decide (node < s.th.length) && (decide ((thAt s.th node.toNat).ty = 2) && match ownerN s.th slot with | some o => underN s node.toNat o | none => false))
def sinside (s : St) (node slot : Int) : Bool := sgood s && insideN s node slot

/-! ### the first one -/
def newT (t room : Int) (i : Nat) : Tng := if i = 0 then ⟨1, 0, 0, room, 0, 0, 0, false, 0, 0, 0, 0, 0⟩ else if i = 1 then Tng.of 3 else if (i : Int) < 2 + t then rootT ((i : Int) - 2) else .zero
def newS (t : Int) (i : Nat) : Sl := if i = 0 then ⟨⟨1, 0, 7, 0⟩, -1⟩ else if i % 8 = 1 ∧ ((i / 8 : Nat) : Int) < t then ⟨⟨3, 1, 7, 0⟩, if i = 1 then -1 else 1⟩ else ⟨.none, -1⟩
def snewS (g : Gd) (room : Int) : St := ⟨g, (List.range g.s.toNat).map (newS g.t), (List.range g.k.toNat).map (newT g.t room)⟩
def snew (g : Gd) (room : Int) : Option St := if g.ok = true ∧ inr3 room 1 4096 = true then some (snewS g room) else none
end Go.Proofs.YtkpbfbmkolgmgaaGreat
namespace Go.Proofs.YtkpbfbmkolgmgaaGreat

section
variable {g : Gd} {room : Int}
end
end Go.Proofs.YtkpbfbmkolgmgaaGreat
namespace Go.Proofs.YtkpbfbmkolgmgaaGreat
open Go.RowKit

/-- a slot in memory -/
structure SlC (w : World) (b o : Nat) (x : Sl) : Prop where
  c0 : w.cell? ⟨b, o, none⟩ = some (.int .i64 x.c.ty)
  c1 : w.cell? ⟨b, o + 1, none⟩ = some (.int .i64 x.c.th)
  c2 : w.cell? ⟨b, o + 2, none⟩ = some (.int .i64 x.c.ri)
  c3 : w.cell? ⟨b, o + 3, none⟩ = some (.int .i64 x.c.ba)
  c4 : w.cell? ⟨b, o + 4, none⟩ = some (.int .i64 x.up)
theorem SlC.same {w w' : World} {b o : Nat} {x : Sl} (h : SlC w b o x) (e : ∀ k, w'.cell? ⟨b, k, none⟩ = w.cell? ⟨b, k, none⟩) : SlC w' b o x :=
  ⟨(e _).trans h.c0, (e _).trans h.c1, (e _).trans h.c2, (e _).trans h.c3, (e _).trans h.c4⟩
/-- a thing in memory -/
structure ThC (w : World) (b o : Nat) (t : Tng) : Prop where
  c0 : w.cell? ⟨b, o, none⟩ = some (.int .i64 t.ty)
  c1 : w.cell? ⟨b, o + 1, none⟩ = some (.int .i64 t.bits)
  c2 : w.cell? ⟨b, o + 2, none⟩ = some (.int .i64 t.base)
  c3 : w.cell? ⟨b, o + 3, none⟩ = some (.int .i64 t.size)
  c4 : w.cell? ⟨b, o + 4, none⟩ = some (.int .i64 t.used)
  c5 : w.cell? ⟨b, o + 5, none⟩ = some (.int .i64 t.frm)
  c6 : w.cell? ⟨b, o + 6, none⟩ = some (.int .i64 t.badge)
  c7 : w.cell? ⟨b, o + 7, none⟩ = some (.bool t.full)
  c8 : w.cell? ⟨b, o + 8, none⟩ = some (.int .u64 (t.word : Int))
  c9 : w.cell? ⟨b, o + 9, none⟩ = some (.int .u64 (t.d0 : Int))
  c10 : w.cell? ⟨b, o + 10, none⟩ = some (.int .u64 (t.d1 : Int))
  c11 : w.cell? ⟨b, o + 11, none⟩ = some (.int .u64 (t.d2 : Int))
  c12 : w.cell? ⟨b, o + 12, none⟩ = some (.int .u64 (t.d3 : Int))
theorem ThC.same {w w' : World} {b o : Nat} {t : Tng} (h : ThC w b o t) (e : ∀ k, w'.cell? ⟨b, k, none⟩ = w.cell? ⟨b, k, none⟩) : ThC w' b o t :=
  ⟨(e _).trans h.c0, (e _).trans h.c1, (e _).trans h.c2, (e _).trans h.c3, (e _).trans h.c4, (e _).trans h.c5, (e _).trans h.c6, (e _).trans h.c7, (e _).trans h.c8, (e _).trans h.c9, (e _).trans h.c10, (e _).trans h.c11, (e _).trans h.c12⟩
def SlotsAt (w : World) (B : Nat) (A : Option Addr) (l : List Sl) : Prop := 0 < l.length → ∃ b o, A = some ⟨b, o, none⟩ ∧ b < B ∧ ∀ j, j < l.length → SlC w b (o + j * 5) (slAt l j)
def ThingsAt (w : World) (B : Nat) (A : Option Addr) (l : List Tng) : Prop := 0 < l.length → ∃ b o, A = some ⟨b, o, none⟩ ∧ b < B ∧ ∀ j, j < l.length → ThC w b (o + j * 13) (thAt l j)
section
variable {w w' : World} {B B' : Nat} {A C : Option Addr} {l : List Sl} {m : List Tng}
theorem SlotsAt.below (h : SlotsAt w B A l) (hb : Below B w w') : SlotsAt w' B A l := fun h0 => by
  obtain ⟨b, o, e, hlt, hc⟩ := h h0
  exact ⟨b, o, e, hlt, fun j hj => (hc j hj).same fun k => hb.cell (p := ⟨b, k, none⟩) hlt⟩
theorem SlotsAt.mono (h : SlotsAt w B A l) (hB : B ≤ B') : SlotsAt w B' A l := fun h0 => by
  obtain ⟨b, o, e, hlt, hc⟩ := h h0
  exact ⟨b, o, e, by omega, hc⟩
theorem SlotsAt.on (h : SlotsAt w w.heap.size A l) (hb : Below w.heap.size w w') : SlotsAt w' w'.heap.size A l := (h.below hb).mono hb.size
theorem ThingsAt.below (h : ThingsAt w B A m) (hb : Below B w w') : ThingsAt w' B A m := fun h0 => by
  obtain ⟨b, o, e, hlt, hc⟩ := h h0
  exact ⟨b, o, e, hlt, fun j hj => (hc j hj).same fun k => hb.cell (p := ⟨b, k, none⟩) hlt⟩
theorem ThingsAt.mono (h : ThingsAt w B A m) (hB : B ≤ B') : ThingsAt w B' A m := fun h0 => by
  obtain ⟨b, o, e, hlt, hc⟩ := h h0
  exact ⟨b, o, e, by omega, hc⟩
theorem ThingsAt.on (h : ThingsAt w w.heap.size A m) (hb : Below w.heap.size w w') : ThingsAt w' w'.heap.size A m := (h.below hb).mono hb.size
end
/-- how a state lies -/
structure StAt (w : World) (s : St) (A C : Option Addr) : Prop where
  sl : SlotsAt w w.heap.size A s.sl
  th : ThingsAt w w.heap.size C s.th
theorem StAt.on {w w' : World} {s : St} {A C : Option Addr} (h : StAt w s A C) (hb : Below w.heap.size w w') : StAt w' s A C := ⟨h.sl.on hb, h.th.on hb⟩
/-- a state in a box; all that was there is as it was -/
structure Sbx (W w : World) (g : Nat) (a b c : Int) (A : Option Addr) (n ca : Nat) (C : Option Addr) (m cc : Nat) : Prop where
  c0 : w.cell? ⟨g, 0, none⟩ = some (.int .i64 a)
  c1 : w.cell? ⟨g, 1, none⟩ = some (.int .i64 b)
  c2 : w.cell? ⟨g, 2, none⟩ = some (.int .i64 c)
  c3 : w.cell? ⟨g, 3, none⟩ = some (.slice A n ca)
  c4 : w.cell? ⟨g, 4, none⟩ = some (.slice C m cc)
  old : Below W.heap.size W w
  base : W.heap.size ≤ g
  lt : g < w.heap.size
section
variable {W w w' : World} {g : Nat} {a b c : Int} {A : Option Addr} {n ca : Nat} {C : Option Addr} {m cc : Nat}
theorem Sbx.new (w : World) (a b c : Int) (A : Option Addr) (n ca : Nat) (C : Option Addr) (m cc : Nat) (t : TypeId) : Sbx w (w.alloc (.cells #[.int .i64 a, .int .i64 b, .int .i64 c, .slice A n ca, .slice C m cc] t)) w.heap.size a b c A n ca C m cc := by
  have hg := heap_alloc_new w (.cells #[.int .i64 a, .int .i64 b, .int .i64 c, .slice A n ca, .slice C m cc] t)
  constructor
  case old => exact below_alloc _ _
  case base => exact Nat.le_refl _
  case lt => simp
  all_goals (rw [cell_of_row _ _ _ _ _ _ hg]; rfl)
theorem Sbx.on (h : Sbx W w g a b c A n ca C m cc) (hb : Below w.heap.size w w') : Sbx W w' g a b c A n ca C m cc := by
  have e : ∀ k, w'.cell? ⟨g, k, none⟩ = w.cell? ⟨g, k, none⟩ := fun k => hb.cell (p := ⟨g, k, none⟩) h.lt
  exact ⟨(e _).trans h.c0, (e _).trans h.c1, (e _).trans h.c2, (e _).trans h.c3, (e _).trans h.c4, below_on h.old hb, h.base, Nat.lt_of_lt_of_le h.lt hb.size⟩
end

/-! ### has, owner -/
def ThOk (l : List Tng) : Prop := ∀ i, i < l.length → (thAt l i).good = true
theorem ThOk.small {l : List Tng} (h : ThOk l) {i : Nat} (hi : i < l.length) : Smallth (thAt l i) := (tng_good.1 (h i hi)).small
end Go.Proofs.YtkpbfbmkolgmgaaGreat
namespace Go.Proofs.YtkpbfbmkolgmgaaGreat
open Go.RowKit

/-! ### bools of a call's own -/
theorem madeb_cell (w : World) (z : Array Value) (n t k : Nat) (hk : k < n) : (w.alloc (.cells (madeCells z n) t)).cell? ⟨w.heap.size, k, none⟩ = some (z[k % z.size]!) := by
  have e := heap_alloc_new w (.cells (madeCells z n) t)
  rw [cell_of_row _ _ k _ _ _ e]
  unfold madeCells
  simp [hk]
/-- a state's box, and bools of the call's own -/
structure Ub (W w : World) (g : Nat) (a b c : Int) (A : Option Addr) (n ca : Nat) (C : Option Addr) (m cc : Nat) (G N : Nat) (u : Nat → Bool) : Prop where
  box : Sbx W w g a b c A n ca C m cc
  cell : ∀ j, j < N → w.cell? ⟨G, j, none⟩ = some (.bool (u j))
  free : ∀ j, w.frozen? ⟨G, j, none⟩ = false
  ne : g < G
  lt : G < w.heap.size
section
variable {W w w' : World} {g : Nat} {a b c : Int} {A : Option Addr} {n ca : Nat} {C : Option Addr} {m cc G N : Nat} {u v : Nat → Bool}
theorem Ub.on (h : Ub W w g a b c A n ca C m cc G N u) (hb : Below w.heap.size w w') : Ub W w' g a b c A n ca C m cc G N u :=
  ⟨h.box.on hb, fun j hj => by rw [hb.cell (p := ⟨G, _, none⟩) h.lt]; exact h.cell j hj,
    fun j => by rw [World.frozen?_of_block (w := w) (a := ⟨G, j, none⟩) (hb.block G h.lt)]; exact h.free j, h.ne, Nat.lt_of_lt_of_le h.lt hb.size⟩
theorem Ub.same (h : Ub W w g a b c A n ca C m cc G N u) (e : ∀ j, j < N → u j = v j) : Ub W w g a b c A n ca C m cc G N v :=
  ⟨h.box, fun j hj => by rw [h.cell j hj, e j hj], h.free, h.ne, h.lt⟩
theorem Ub.set (h : Ub W w g a b c A n ca C m cc G N u) (i : Nat) : Ub W (w.setCell ⟨G, i, none⟩ (.bool true)) g a b c A n ca C m cc G N (fun j => j == i || u j) := by
  have hB : Below W.heap.size W (w.setCell ⟨G, i, none⟩ (.bool true)) := h.box.old.setCell (p := ⟨G, i, none⟩) (by have := h.box.base; have := h.ne; show W.heap.size ≤ G; omega) _
  have hn : ∀ j, (w.setCell ⟨G, i, none⟩ (.bool true)).cell? ⟨g, j, none⟩ = w.cell? ⟨g, j, none⟩ := fun j => World.cell?_setCell_other _ _ _ _ (fun q => by injection q with q; have := h.ne; omega)
  refine ⟨⟨(hn _).trans h.box.c0, (hn _).trans h.box.c1, (hn _).trans h.box.c2, (hn _).trans h.box.c3, (hn _).trans h.box.c4, hB, h.box.base, by simpa [World.setCell] using h.box.lt⟩, fun j hj => ?_, fun j => by rw [World.frozen?_setCell]; exact h.free j, h.ne, by simpa [World.setCell] using h.lt⟩
  by_cases e : j = i
  · subst e
    rw [World.cell?_setCell_same _ _ _ (h.cell j hj)]
    simp
  · rw [World.cell?_setCell_other _ _ _ _ (fun q => e (by injection q with _ q; exact q.symm)), h.cell j hj]
    simp [e]
theorem Ub.new (h : Sbx W w g a b c A n ca C m cc) (N : Nat) (t : TypeId) : Ub W (w.alloc (.cells (madeCells #[.bool false] N) t)) g a b c A n ca C m cc w.heap.size N (fun _ => false) :=
  ⟨h.on (below_alloc _ _), fun j hj => by rw [madeb_cell _ _ _ _ _ hj]; simp [Nat.mod_one], fun j => frozen_of_row _ _ j _ _ (heap_alloc_new w _), h.lt, by simp⟩
end

/-! ### slot by slot -/
/-- the capabilities of Nodes name things that are there -/
def NdIn (s : St) : Prop := ∀ i, i < s.sl.length → (slAt s.sl i).c.ty = 2 → 0 ≤ (slAt s.sl i).c.th ∧ (slAt s.sl i).c.th < s.th.length
end Go.Proofs.YtkpbfbmkolgmgaaGreat
namespace Go.Proofs.YtkpbfbmkolgmgaaGreat
open Go.RowKit

/-! ### free -/
/-! ### holders -/
theorem Bi.none (w : World) : Bi w w (.slice none 0 0) [] := ⟨World.ownsRow_nil _ _ _ _, Below.refl _ _⟩
/-! ### ring -/
/-- nothing at this slot -/
def noRing (s : St) (x i : Nat) : Prop := (slAt s.sl i).c.ty = 2 → ownerN s.th i = some x → underN s (slAt s.sl i).c.th.toNat x = false
/-! ### inside -/
/-! ### gap -/
theorem tw2_is {b : Int} (h1 : 1 ≤ b) (h2 : b ≤ 4) : ∃ N : Nat, tw2 b = N ∧ 2 ≤ N ∧ N ≤ 16 := by
  have : b = 1 ∨ b = 2 ∨ b = 3 ∨ b = 4 := by omega
  rcases this with h | h | h | h <;> rw [h]
  · exact ⟨2, rfl, by omega, by omega⟩
  · exact ⟨4, rfl, by omega, by omega⟩
  · exact ⟨8, rfl, by omega, by omega⟩
  · exact ⟨16, rfl, by omega, by omega⟩
end Go.Proofs.YtkpbfbmkolgmgaaGreat
namespace Go.Proofs.YtkpbfbmkolgmgaaGreat
open Go.RowKit

end Go.Proofs.YtkpbfbmkolgmgaaGreat
namespace Go.Proofs.YtkpbfbmkolgmgaaGreat
open Go.RowKit

theorem Gst.ok {s : St} (h : Gst s) : s.g.ok = true := by
  have := h.k1
  rw [St.k1, Bool.and_eq_true] at this
  exact this.1
theorem Gst.lens {s : St} (h : Gst s) : (s.sl.length : Int) = s.g.s ∧ (s.th.length : Int) = s.g.k := by
  have := h.k1
  rw [St.k1, Bool.and_eq_true, Bool.and_eq_true, decide_eq_true_eq, decide_eq_true_eq] at this
  exact this.2
theorem Gst.few {s : St} (h : Gst s) : s.sl.length ≤ 96 ∧ s.th.length ≤ 48 := by
  have h1 := Gd.ok_iff.1 h.ok
  have h2 := h.lens
  omega
theorem Gst.thok {s : St} (h : Gst s) : ThOk s.th := fun i hi => by
  have := h.k2 i hi
  rw [St.k2, Bool.and_eq_true] at this
  exact this.1
theorem Gst.ndin {s : St} (h : Gst s) : NdIn s := fun j hj h2 => by
  have h4 := h.k4 j hj
  have hne : ¬ (slAt s.sl j).c.ty = 0 := by omega
  rw [St.k4, if_neg hne, Bool.and_eq_true, Bool.and_eq_true, St.thing4, Bool.and_eq_true, decide_eq_true_eq] at h4
  exact ⟨((good_iff_all.1 h4.1).resolve_left (fun q => hne q.1)).2.2.1, h4.2.1.1⟩
end Go.Proofs.YtkpbfbmkolgmgaaGreat
namespace Go.Proofs.YtkpbfbmkolgmgaaGreat
open Go.RowKit

def Sl.val (x : Sl) : Value := .agg #[.int .i64 x.c.ty, .int .i64 x.c.th, .int .i64 x.c.ri, .int .i64 x.c.ba, .int .i64 x.up]
theorem sl_ext {l m : List Sl} (h : l.length = m.length) (e : ∀ j, j < l.length → slAt l j = slAt m j) : l = m := by
  refine List.ext_getElem? fun j => ?_
  rcases Nat.lt_or_ge j l.length with hj | hj
  · rw [slAt_get hj, slAt_get (h ▸ hj), e j hj]
  · rw [List.getElem?_eq_none hj, List.getElem?_eq_none (h ▸ hj)]
theorem th_ext {l m : List Tng} (h : l.length = m.length) (e : ∀ j, j < l.length → thAt l j = thAt m j) : l = m := by
  refine List.ext_getElem? fun j => ?_
  rcases Nat.lt_or_ge j l.length with hj | hj
  · rw [thAt_get hj, thAt_get (h ▸ hj), e j hj]
  · rw [List.getElem?_eq_none hj, List.getElem?_eq_none (h ▸ hj)]
/-- two states' boxes -/
structure Two (W w : World) (g h : Nat) (a b c : Int) (A : Option Addr) (n ca : Nat) (C : Option Addr) (m cc : Nat) (a' b' c' : Int) (A' : Option Addr) (n' ca' : Nat) (C' : Option Addr) (m' cc' : Nat) : Prop where
  x : Sbx W w g a b c A n ca C m cc
  y : Sbx W w h a' b' c' A' n' ca' C' m' cc'
theorem Two.on {W w w' : World} {g h : Nat} {a b c : Int} {A : Option Addr} {n ca : Nat} {C : Option Addr} {m cc : Nat} {a' b' c' : Int} {A' : Option Addr} {n' ca' : Nat} {C' : Option Addr} {m' cc' : Nat} (k : Two W w g h a b c A n ca C m cc a' b' c' A' n' ca' C' m' cc') (hb : Below w.heap.size w w') : Two W w' g h a b c A n ca C m cc a' b' c' A' n' ca' C' m' cc' := ⟨k.x.on hb, k.y.on hb⟩
theorem Sbx.also {W w : World} (h : Below W.heap.size W w) (a b c : Int) (A : Option Addr) (n ca : Nat) (C : Option Addr) (m cc : Nat) (t : TypeId) : Sbx W (w.alloc (.cells #[.int .i64 a, .int .i64 b, .int .i64 c, .slice A n ca, .slice C m cc] t)) w.heap.size a b c A n ca C m cc := by
  have k := Sbx.new w a b c A n ca C m cc t
  exact ⟨k.c0, k.c1, k.c2, k.c3, k.c4, below_on h k.old, h.size, k.lt⟩
end Go.Proofs.YtkpbfbmkolgmgaaGreat
namespace Go.Proofs.YtkpbfbmkolgmgaaGreat
open Go.RowKit

/-! ### slots and things written out -/
def slist (x : Sl) : List Value := [.int .i64 x.c.ty, .int .i64 x.c.th, .int .i64 x.c.ri, .int .i64 x.c.ba, .int .i64 x.up]
def thist (t : Tng) : List Value := [.int .i64 t.ty, .int .i64 t.bits, .int .i64 t.base, .int .i64 t.size, .int .i64 t.used, .int .i64 t.frm, .int .i64 t.badge, .bool t.full, .int .u64 (t.word : Int), .int .u64 (t.d0 : Int), .int .u64 (t.d1 : Int), .int .u64 (t.d2 : Int), .int .u64 (t.d3 : Int)]
def sflat (l : List Sl) : List Value := l.flatMap slist
def tflat (l : List Tng) : List Value := l.flatMap thist
theorem flat_at {α : Type} {f : α → List Value} {k : Nat} (hf : ∀ x, (f x).length = k) : ∀ (l : List α) (j : Nat) (x : α), l[j]? = some x → ∀ c, c < k → (l.flatMap f)[j * k + c]? = (f x)[c]?
  | y :: l, 0, x, h, c, hc => by
    obtain rfl : y = x := by simpa using h
    rw [List.flatMap_cons, List.getElem?_append_left (by rw [hf]; omega), Nat.zero_mul, Nat.zero_add]
  | y :: l, j + 1, x, h, c, hc => by
    have := flat_at hf l j x (by simpa using h) c hc
    have e : (j + 1) * k + c = k + (j * k + c) := by rw [Nat.add_mul]; omega
    rw [List.flatMap_cons, e, List.getElem?_append_right (by rw [hf]; omega), hf, Nat.add_sub_cancel_left, this]
theorem flat_len {α : Type} {f : α → List Value} {k : Nat} (hf : ∀ x, (f x).length = k) : ∀ l : List α, (l.flatMap f).length = l.length * k
  | [] => by simp
  | y :: l => by rw [List.flatMap_cons, List.length_append, hf, flat_len hf l, List.length_cons, Nat.add_mul]; omega
theorem slist_len (x : Sl) : (slist x).length = 5 := rfl
theorem thist_len (t : Tng) : (thist t).length = 13 := rfl
theorem sflat_len (l : List Sl) : (sflat l).length = l.length * 5 := flat_len slist_len l
theorem tflat_len (l : List Tng) : (tflat l).length = l.length * 13 := flat_len thist_len l
theorem SlC.of_flat {w : World} {g : Nat} {l : List Sl} (h : ∀ k u, (sflat l)[k]? = some u → w.cell? ⟨g, k, none⟩ = some u) {j : Nat} (hj : j < l.length) : SlC w g (0 + j * 5) (slAt l j) := by
  have e : ∀ c u, c < 5 → (slist (slAt l j))[c]? = some u → w.cell? ⟨g, 0 + j * 5 + c, none⟩ = some u := fun c u hc hu => by
    rw [Nat.zero_add]
    exact h _ _ ((flat_at slist_len l j _ (slAt_get hj) c hc).trans hu)
  exact ⟨e 0 _ (by omega) rfl, e 1 _ (by omega) rfl, e 2 _ (by omega) rfl, e 3 _ (by omega) rfl, e 4 _ (by omega) rfl⟩
theorem ThC.of_flat {w : World} {g : Nat} {l : List Tng} (h : ∀ k u, (tflat l)[k]? = some u → w.cell? ⟨g, k, none⟩ = some u) {j : Nat} (hj : j < l.length) : ThC w g (0 + j * 13) (thAt l j) := by
  have e : ∀ c u, c < 13 → (thist (thAt l j))[c]? = some u → w.cell? ⟨g, 0 + j * 13 + c, none⟩ = some u := fun c u hc hu => by
    rw [Nat.zero_add]
    exact h _ _ ((flat_at thist_len l j _ (thAt_get hj) c hc).trans hu)
  exact ⟨e 0 _ (by omega) rfl, e 1 _ (by omega) rfl, e 2 _ (by omega) rfl, e 3 _ (by omega) rfl, e 4 _ (by omega) rfl, e 5 _ (by omega) rfl, e 6 _ (by omega) rfl, e 7 _ (by omega) rfl, e 8 _ (by omega) rfl, e 9 _ (by omega) rfl, e 10 _ (by omega) rfl, e 11 _ (by omega) rfl, e 12 _ (by omega) rfl⟩
/-! ### what ownOf has made -/
section
variable {W V w w' : World} {g q h : Nat} {a b c : Int} {A : Option Addr} {n ca : Nat} {C : Option Addr} {m cc : Nat} {v u x : Value}
end
def put5 (w : World) (q : Nat) (v0 v1 v2 v3 v4 : Value) : World := ((((w.setCell ⟨q, 0, none⟩ v0).setCell ⟨q, 1, none⟩ v1).setCell ⟨q, 2, none⟩ v2).setCell ⟨q, 3, none⟩ v3).setCell ⟨q, 4, none⟩ v4
theorem put5_heap (w : World) (q : Nat) (v0 v1 v2 v3 v4 : Value) {k : Nat} (h : k ≠ q) : (put5 w q v0 v1 v2 v3 v4).heap[k]? = w.heap[k]? := by
  unfold put5
  iterate 5 refine (Below.heap_setCell _ _ _ _ (by exact h)).trans ?_
  rfl
theorem put5_size (w : World) (q : Nat) (v0 v1 v2 v3 v4 : Value) : (put5 w q v0 v1 v2 v3 v4).heap.size = w.heap.size := by simp [put5, World.setCell]
theorem put5_below {W w : World} (hb : Below W.heap.size W w) {q : Nat} (hq : W.heap.size ≤ q) (v0 v1 v2 v3 v4 : Value) : Below W.heap.size W (put5 w q v0 v1 v2 v3 v4) :=
  ((((hb.setCell (p := ⟨q, 0, none⟩) hq _).setCell (p := ⟨q, 1, none⟩) hq _).setCell (p := ⟨q, 2, none⟩) hq _).setCell (p := ⟨q, 3, none⟩) hq _).setCell (p := ⟨q, 4, none⟩) hq _
theorem put5_cells {w : World} {q : Nat} {u0 u1 u2 u3 u4 : Value} (h0 : w.cell? ⟨q, 0, none⟩ = some u0) (h1 : w.cell? ⟨q, 1, none⟩ = some u1) (h2 : w.cell? ⟨q, 2, none⟩ = some u2) (h3 : w.cell? ⟨q, 3, none⟩ = some u3) (h4 : w.cell? ⟨q, 4, none⟩ = some u4) (v0 v1 v2 v3 v4 : Value) :
    (put5 w q v0 v1 v2 v3 v4).cell? ⟨q, 0, none⟩ = some v0 ∧ (put5 w q v0 v1 v2 v3 v4).cell? ⟨q, 1, none⟩ = some v1 ∧ (put5 w q v0 v1 v2 v3 v4).cell? ⟨q, 2, none⟩ = some v2 ∧ (put5 w q v0 v1 v2 v3 v4).cell? ⟨q, 3, none⟩ = some v3 ∧ (put5 w q v0 v1 v2 v3 v4).cell? ⟨q, 4, none⟩ = some v4 := by
  have o : ∀ (z : World) (i j : Nat) (x : Value), j ≠ i → (z.setCell ⟨q, i, none⟩ x).cell? ⟨q, j, none⟩ = z.cell? ⟨q, j, none⟩ := fun z i j x h => World.cell?_setCell_other _ _ _ _ (fun e => by injection e with _ e; exact h e.symm)
  have s : ∀ (z : World) (i : Nat) (x y : Value), z.cell? ⟨q, i, none⟩ = some y → (z.setCell ⟨q, i, none⟩ x).cell? ⟨q, i, none⟩ = some x := fun z i x y h => World.cell?_setCell_same _ _ _ h
  unfold put5
  refine ⟨?_, ?_, ?_, ?_, ?_⟩
  · rw [o _ 4 0 _ (by omega), o _ 3 0 _ (by omega), o _ 2 0 _ (by omega), o _ 1 0 _ (by omega)]; exact s _ _ _ _ h0
  · rw [o _ 4 1 _ (by omega), o _ 3 1 _ (by omega), o _ 2 1 _ (by omega)]; exact s _ _ _ _ ((o _ 0 1 _ (by omega)).trans h1)
  · rw [o _ 4 2 _ (by omega), o _ 3 2 _ (by omega)]; exact s _ _ _ _ (((o _ 1 2 _ (by omega)).trans (o _ 0 2 _ (by omega))).trans h2)
  · rw [o _ 4 3 _ (by omega)]; exact s _ _ _ _ ((((o _ 2 3 _ (by omega)).trans (o _ 1 3 _ (by omega))).trans (o _ 0 3 _ (by omega))).trans h3)
  · exact s _ _ _ _ (((((o _ 3 4 _ (by omega)).trans (o _ 2 4 _ (by omega))).trans (o _ 1 4 _ (by omega))).trans (o _ 0 4 _ (by omega))).trans h4)
end Go.Proofs.YtkpbfbmkolgmgaaGreat
namespace Go.Proofs.YtkpbfbmkolgmgaaGreat
open Go.RowKit

/-- a state of the call's own: its lists are new, and may be written -/
structure Fsh (W w : World) (s : St) (A C : Option Addr) : Prop where
  lies : StAt w s A C
  sl : 0 < s.sl.length → ∃ b, A = some ⟨b, 0, none⟩ ∧ W.heap.size ≤ b ∧ b < w.heap.size ∧ ∀ k, w.frozen? ⟨b, k, none⟩ = false
  th : 0 < s.th.length → ∃ b, C = some ⟨b, 0, none⟩ ∧ W.heap.size ≤ b ∧ b < w.heap.size ∧ ∀ k, w.frozen? ⟨b, k, none⟩ = false
  ne : 0 < s.sl.length → 0 < s.th.length → A ≠ C
/-- a new state, or the error -/
def NewF (w w' : World) (e : Ending) : Option St → Prop
  | none => ∃ A ca C cc, e = .returned (.tuple #[.agg #[.int .i64 0, .int .i64 0, .int .i64 0, .slice A 0 ca, .slice C 0 cc], .int .i64 1]) ∧ Below w.heap.size w w'
  | some s => ∃ A ca C cc, e = .returned (.tuple #[.agg #[.int .i64 s.g.t, .int .i64 s.g.s, .int .i64 s.g.k, .slice A s.sl.length ca, .slice C s.th.length cc], .int .i64 0]) ∧ s.sl.length ≤ ca ∧ s.th.length ≤ cc ∧ Fsh w w' s A C ∧ Below w.heap.size w w'
/-- another one, alike -/
def CloneF (w w' : World) (e : Ending) (a b c : Int) (n m : Nat) (s : St) : Prop := ∃ A ca C cc, e = .returned (.agg #[.int .i64 a, .int .i64 b, .int .i64 c, .slice A n ca, .slice C m cc]) ∧ n ≤ ca ∧ m ≤ cc ∧ Fsh w w' s A C ∧ Below w.heap.size w w'
def ForestF (w w' : World) (e : Ending) (L : List Int) : Prop := ∃ B cb, e = .returned (.agg #[.slice B L.length cb]) ∧ L.length ≤ cb ∧ IntsAt w' w'.heap.size B L ∧ Below w.heap.size w w'
/-- how a state is handed over -/
structure StH (w : World) (s : St) (a b c : Int) (A : Option Addr) (n ca : Nat) (C : Option Addr) (m cc : Nat) : Prop where
  lies : StAt w s A C
  hg : s.g = ⟨a, b, c⟩
  hn : n = s.sl.length
  hm : m = s.th.length
  few : n ≤ 1000
  fewm : m ≤ 1000
  hca : n ≤ ca
  hcc : m ≤ cc
theorem StH.on {w w' : World} {s : St} {a b c : Int} {A : Option Addr} {n ca : Nat} {C : Option Addr} {m cc : Nat} (h : StH w s a b c A n ca C m cc) (hb : Below w.heap.size w w') : StH w' s a b c A n ca C m cc := ⟨h.lies.on hb, h.hg, h.hn, h.hm, h.few, h.fewm, h.hca, h.hcc⟩
/-! ### heavy -/
/-! ### awake -/
def s64 : St := snewS ⟨2, 32, 16⟩ 64
theorem s64_new : snew ⟨2, 32, 16⟩ 64 = some s64 := by
  rw [snew, if_pos ⟨by decide +kernel, by decide +kernel⟩]
  rfl
theorem s64_slots : s64.sl.length = 32 := by decide +kernel
theorem s64_things : s64.th.length = 16 := by decide +kernel
theorem s64_geo : s64.g = ⟨2, 32, 16⟩ := rfl
end Go.Proofs.YtkpbfbmkolgmgaaGreat
namespace Go.Proofs.YtkpbfbmkolgmgaaGreat
open Go.ChangeShapes Go.WideShapes Go.ChangeAt Go.RowKit Go.Deep

instance : Inhabited Sl := ⟨.zero⟩
instance : Inhabited Tng := ⟨.zero⟩
section
variable {H : Type} {enc : TypeId × Value → H} {W : World} {base : Nat} {sp : Nat → Bool} {hd : Bool} {n : Nat} {x : DataW H × List MemPlace}
end

end Go.Proofs.YtkpbfbmkolgmgaaGreat
