/-
  The reference's free, holders, ring, inside and gap. Condition: the state lies in memory, its things may be, the capabilities of Nodes name things that are there.
-/
import Derived.Test.YthooeahpfegjbaaJf
namespace Go.Proofs.Ythooeahpfegjbaa
open Go.RowKit

/-! ### free -/
def FrRel (W : World) (g : Nat) (a b c : Int) (A : Option Addr) (n ca : Nat) (C : Option Addr) (m cc : Nat) (l : List Tng) (f : Nat) (p : Value) (wr : World) : Prop :=
  ∃ i : Nat, f + i = m ∧ p = .int .i64 i ∧ (∀ j, j < i → (thAt l j).ty ≠ 0) ∧ Sbx W wr g a b c A n ca C m cc
/-! ### holders -/
theorem Bi.none (w : World) : Bi w w (.slice none 0 0) [] := ⟨World.ownsRow_nil _ _ _ _, Below.refl _ _⟩
theorem Bi.intsc {W w : World} {v : Value} {l : List Int} (h : Bi W w v l) : ∃ A cap, v = .slice A l.length cap ∧ l.length ≤ cap ∧ IntsAt w w.heap.size A l := by
  obtain ⟨A, cap, e, hi⟩ := h.ints
  refine ⟨A, cap, e, ?_, hi⟩
  rcases h.own.2 with ⟨q, h0⟩ | ⟨g, cap', cur, q, hb, hg, h1, h2, h3, h4⟩
  · rw [h0]; omega
  · rw [e] at q
    injection q with _ q1 q2
    omega
def HoRel (W : World) (n : Nat) (P : Nat → Bool) (f : Nat) (v q : Value) (wr : World) : Prop :=
  ∃ i : Nat, f + i = n ∧ q = .int .i64 i ∧ Bi W wr v (toInts (pick P i))
theorem holdN_pick (sl : List Sl) (t : Int) : holdN sl t = pick (fun i => holds t (slAt sl i)) sl.length := rfl
/-! ### ring -/
theorem ring_yes {s : St} {x i : Nat} (hi : i < s.sl.length) (h2 : (slAt s.sl i).c.ty = 2) (ho : ownerN s.th i = some x) (hu : underN s (slAt s.sl i).c.th.toNat x = true) : ringN s x = true := by
  rw [ringN, List.any_eq_true]
  exact ⟨(x, (slAt s.sl i).c.th.toNat), mem_edges.2 ⟨i, hi, h2, ho, rfl⟩, by rw [hu]; simp⟩
theorem ring_no {s : St} {x : Nat} (h : ∀ i, i < s.sl.length → (slAt s.sl i).c.ty = 2 → ownerN s.th i = some x → underN s (slAt s.sl i).c.th.toNat x = false) : ringN s x = false := by
  rw [Bool.eq_false_iff]
  intro e
  rw [ringN, List.any_eq_true] at e
  obtain ⟨⟨o, y⟩, h1, h2⟩ := e
  rw [Bool.and_eq_true, beq_iff_eq] at h2
  obtain ⟨rfl, h3⟩ := h2
  obtain ⟨i, hi, h4, h5, h6⟩ := mem_edges.1 h1
  have := h i hi h4 h5
  simp only at h6 h3
  rw [h6, h3] at this
  cases this
/-- nothing at this slot -/
def noRing (s : St) (x i : Nat) : Prop := (slAt s.sl i).c.ty = 2 → ownerN s.th i = some x → underN s (slAt s.sl i).c.th.toNat x = false
def RiRel (W : World) (g : Nat) (a b c : Int) (A : Option Addr) (n ca : Nat) (C : Option Addr) (m cc : Nat) (s : St) (x : Nat) (f : Nat) (p : Value) (wr : World) : Prop :=
  ∃ i : Nat, f + i = n ∧ p = .int .i64 i ∧ (∀ j, j < i → noRing s x j) ∧ Sbx W wr g a b c A n ca C m cc
/-! ### inside -/
/-! ### gap -/
def gv (r : Option Nat) : Value := .tuple #[.int .i64 ((r.getD 0 : Nat) : Int), .bool r.isSome]
theorem gapF_no {own : Nat → Bool} {m n b : Nat} (h : ∀ c, c < b → gapAt own n c = false) (hb : m < b + n) : gapF own m n = none := by
  rw [gapF, List.find?_eq_none]
  intro c hc
  rw [List.mem_range] at hc
  rw [h c (by omega)]
  decide
theorem gapF_yes {own : Nat → Bool} {m n b : Nat} (h : ∀ c, c < b → gapAt own n c = false) (hb : b + n ≤ m) (hg : gapAt own n b = true) : gapF own m n = some b := find_least (by omega) hg h
theorem gapAt_succ (own : Nat → Bool) (n b : Nat) : gapAt own (n + 1) b = (gapAt own n b && !own (b + n)) := by
  rw [gapAt, List.range_succ, List.all_append]
  simp [gapAt]
theorem tw2_is {b : Int} (h1 : 1 ≤ b) (h2 : b ≤ 4) : ∃ N : Nat, tw2 b = N ∧ 2 ≤ N ∧ N ≤ 16 := by
  have : b = 1 ∨ b = 2 ∨ b = 3 ∨ b = 4 := by omega
  rcases this with h | h | h | h <;> rw [h]
  · exact ⟨2, rfl, by omega, by omega⟩
  · exact ⟨4, rfl, by omega, by omega⟩
  · exact ⟨8, rfl, by omega, by omega⟩
  · exact ⟨16, rfl, by omega, by omega⟩
theorem optI_neg (r : Option Nat) : decide (optI r < 0) = !r.isSome := by
  rcases r with _ | o
  · rfl
  · show decide ((o : Int) < 0) = false
    exact decide_eq_false (by omega)
def GaRel (W : World) (g : Nat) (a b c : Int) (A : Option Addr) (n ca : Nat) (C : Option Addr) (m cc : Nat) (own : Nat → Bool) (N : Nat) (f : Nat) (p : Value) (wr : World) : Prop :=
  ∃ i : Nat, f + i = n + 1 ∧ i ≤ n + 1 ∧ p = .int .i64 i ∧ (∀ j, j < i → gapAt own N j = false) ∧ Sbx W wr g a b c A n ca C m cc
def GaRel2 (W : World) (g : Nat) (a b c : Int) (A : Option Addr) (n ca : Nat) (C : Option Addr) (m cc : Nat) (own : Nat → Bool) (N i : Nat) (f : Nat) (p q : Value) (wr : World) : Prop :=
  ∃ j : Nat, f + j = N ∧ p = .bool (gapAt own j i) ∧ q = .int .i64 ((i + j : Nat) : Int) ∧ Sbx W wr g a b c A n ca C m cc
end Go.Proofs.Ythooeahpfegjbaa
