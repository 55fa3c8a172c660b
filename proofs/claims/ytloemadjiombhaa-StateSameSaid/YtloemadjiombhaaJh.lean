/-
  The walk of the reference's GoodState. Condition: the state lies in memory.
-/
import Derived.Test.YtloemadjiombhaaJi
namespace Go.Proofs.Ytloemadjiombhaa
open Go.RowKit

/-- a state in a box, and its Geo in another one -/
structure Gbx (W w : World) (g h : Nat) (a b c : Int) (A : Option Addr) (n ca : Nat) (C : Option Addr) (m cc : Nat) : Prop where
  s : Sbx W w g a b c A n ca C m cc
  h0 : w.cell? ⟨h, 0, none⟩ = some (.int .i64 a)
  h1 : w.cell? ⟨h, 1, none⟩ = some (.int .i64 b)
  h2 : w.cell? ⟨h, 2, none⟩ = some (.int .i64 c)
  hlt : h < w.heap.size
/-- and a thing in a third one -/
structure T8 (W V w : World) (g h P : Nat) (a b c : Int) (A : Option Addr) (n ca : Nat) (C : Option Addr) (m cc : Nat) (t : Tng) : Prop where
  s : Gbx W w g h a b c A n ca C m cc
  t : Tbx V w P t
section
variable {W V w w' : World} {g h P : Nat} {a b c : Int} {A : Option Addr} {n ca : Nat} {C : Option Addr} {m cc : Nat} {t : Tng}
theorem Gbx.on (k : Gbx W w g h a b c A n ca C m cc) (hb : Below w.heap.size w w') : Gbx W w' g h a b c A n ca C m cc := by
  have e : ∀ j, w'.cell? ⟨h, j, none⟩ = w.cell? ⟨h, j, none⟩ := fun j => hb.cell (p := ⟨h, j, none⟩) k.hlt
  exact ⟨k.s.on hb, (e _).trans k.h0, (e _).trans k.h1, (e _).trans k.h2, Nat.lt_of_lt_of_le k.hlt hb.size⟩
theorem Gbx.new (k : Sbx W w g a b c A n ca C m cc) (t : TypeId) : Gbx W (w.alloc (.cells #[.int .i64 a, .int .i64 b, .int .i64 c] t)) g w.heap.size a b c A n ca C m cc := by
  have hg := heap_alloc_new w (.cells #[.int .i64 a, .int .i64 b, .int .i64 c] t)
  refine ⟨k.on (below_alloc _ _), ?_, ?_, ?_, by simp⟩
  all_goals (rw [cell_of_row _ _ _ _ _ _ hg]; rfl)
theorem T8.on (k : T8 W V w g h P a b c A n ca C m cc t) (hb : Below w.heap.size w w') : T8 W V w' g h P a b c A n ca C m cc t := ⟨k.s.on hb, k.t.on hb⟩
theorem T8.drew (k : T8 W V w g h P a b c A n ca C m cc t) : T8 W V w.drew g h P a b c A n ca C m cc t := k.on (below_self w).drew
end
def GsR1 (W : World) (s : St) (g h : Nat) (a b c : Int) (A : Option Addr) (n ca : Nat) (C : Option Addr) (m cc : Nat) (f : Nat) (p : Value) (wr : World) : Prop :=
  ∃ i : Nat, f + i = m ∧ p = .int .i64 i ∧ (∀ j, j < i → s.k2 j = true) ∧ Gbx W wr g h a b c A n ca C m cc
def GsR2 (W V : World) (s : St) (g h P : Nat) (a b c : Int) (A : Option Addr) (n ca : Nat) (C : Option Addr) (m cc : Nat) (t : Tng) (i : Nat) (f : Nat) (p : Value) (wr : World) : Prop :=
  ∃ j : Nat, f + j = i ∧ p = .int .i64 j ∧ (∀ k, k < j → t.meets (thAt s.th k) = false) ∧ T8 W V wr g h P a b c A n ca C m cc t
def GsR3 (W : World) (s : St) (g h : Nat) (a b c : Int) (A : Option Addr) (n ca : Nat) (C : Option Addr) (m cc T : Nat) (f : Nat) (p : Value) (wr : World) : Prop :=
  ∃ i : Nat, f + i = T ∧ p = .int .i64 i ∧ (∀ j, j < i → s.k3 j = true) ∧ Gbx W wr g h a b c A n ca C m cc
def GsR4 (W : World) (s : St) (g h : Nat) (a b c : Int) (A : Option Addr) (n ca : Nat) (C : Option Addr) (m cc : Nat) (f : Nat) (p : Value) (wr : World) : Prop :=
  ∃ i : Nat, f + i = n ∧ p = .int .i64 i ∧ (∀ j, j < i → s.k4 j = true) ∧ Gbx W wr g h a b c A n ca C m cc
def GsR6 (W : World) (s : St) (g h : Nat) (a b c : Int) (A : Option Addr) (n ca : Nat) (C : Option Addr) (m cc : Nat) (f : Nat) (p : Value) (wr : World) : Prop :=
  ∃ i : Nat, f + i = n ∧ p = .int .i64 i ∧ (∀ j, j < i → s.k6 j = true) ∧ Gbx W wr g h a b c A n ca C m cc
def GsR7 (W : World) (s : St) (g h : Nat) (a b c : Int) (A : Option Addr) (n ca : Nat) (C : Option Addr) (m cc : Nat) (f : Nat) (p : Value) (wr : World) : Prop :=
  ∃ i : Nat, f + i = m ∧ p = .int .i64 i ∧ (∀ j, j < i → s.k7 j = true) ∧ Gbx W wr g h a b c A n ca C m cc
theorem t8_use {W V w : World} {g h P : Nat} {a b c : Int} {A : Option Addr} {n ca : Nat} {C : Option Addr} {m cc : Nat} {ty bits base size used frm badge : Int} {full : Bool} {word d0 d1 d2 d3 : Nat} {N : Nat} {xs : Array Value} {r : Value} (k : T8 W V w g h P a b c A n ca C m cc ⟨ty, bits, base, size, used, frm, badge, full, word, d0, d1, d2, d3⟩) (hc : Calls Try.prog N xs w fun e w' => e = .returned r ∧ Below w.heap.size w w') :
    Calls Try.prog N xs w fun e w' => e = .returned r ∧ w'.cell? ⟨P, 0, none⟩ = some (.int .i64 ty) ∧ w'.cell? ⟨P, 1, none⟩ = some (.int .i64 bits) ∧ w'.cell? ⟨P, 2, none⟩ = some (.int .i64 base) ∧ w'.cell? ⟨P, 3, none⟩ = some (.int .i64 size) ∧ w'.cell? ⟨P, 4, none⟩ = some (.int .i64 used) ∧ w'.cell? ⟨P, 5, none⟩ = some (.int .i64 frm) ∧ w'.cell? ⟨P, 6, none⟩ = some (.int .i64 badge) ∧ w'.cell? ⟨P, 7, none⟩ = some (.bool full) ∧ w'.cell? ⟨P, 8, none⟩ = some (.int .u64 (word : Int)) ∧ w'.cell? ⟨P, 9, none⟩ = some (.int .u64 (d0 : Int)) ∧ w'.cell? ⟨P, 10, none⟩ = some (.int .u64 (d1 : Int)) ∧ w'.cell? ⟨P, 11, none⟩ = some (.int .u64 (d2 : Int)) ∧ w'.cell? ⟨P, 12, none⟩ = some (.int .u64 (d3 : Int)) ∧ w'.cell? ⟨h, 1, none⟩ = some (.int .i64 b) ∧ T8 W V w' g h P a b c A n ca C m cc ⟨ty, bits, base, size, used, frm, badge, full, word, d0, d1, d2, d3⟩ := by
  refine hc.mono ?_
  rintro e w' ⟨rfl, hb⟩
  have q := k.on hb
  exact ⟨rfl, q.t.c0, q.t.c1, q.t.c2, q.t.c3, q.t.c4, q.t.c5, q.t.c6, q.t.c7, q.t.c8, q.t.c9, q.t.c10, q.t.c11, q.t.c12, q.s.h1, q⟩
theorem tw2_few {b : Int} (h : 0 ≤ b ∧ b ≤ 4) : ∃ p : Int, tw2 b = p ∧ 1 ≤ p ∧ p ≤ 16 := by
  have : b = 0 ∨ b = 1 ∨ b = 2 ∨ b = 3 ∨ b = 4 := by omega
  rcases this with h | h | h | h | h <;> rw [h]
  · exact ⟨1, rfl, by omega, by omega⟩
  · exact ⟨2, rfl, by omega, by omega⟩
  · exact ⟨4, rfl, by omega, by omega⟩
  · exact ⟨8, rfl, by omega, by omega⟩
  · exact ⟨16, rfl, by omega, by omega⟩
end Go.Proofs.Ytloemadjiombhaa
