/-
  The walks of the reference's GoodForest and There. Condition: the places lie in memory, at most a million.
-/
import Derived.Test.YthooeahpfegjbaaEd
namespace Go.Proofs.Ythooeahpfegjbaa
open Go.RowKit

/-- a place is read -/
theorem at_place {w : World} {b o : Nat} {l : List Int} (hc : ∀ (j : Nat) (z : Int), l[j]? = some z → w.cell? ⟨b, o + j, none⟩ = some (.int .i64 z)) {k : Nat} (hk : k < l.length) : w.cell? ⟨b, o + k, none⟩ = some (.int .i64 (fu l k)) := hc k _ (fu_get hk)
theorem at_open {w : World} {B : Nat} {A : Option Addr} {l : List Int} (h : IntsAt w B A l) (h0 : 0 < l.length) : ∃ b o, A = some ⟨b, o, none⟩ ∧ b < B ∧ ∀ k, k < l.length → w.cell? ⟨b, o + k, none⟩ = some (.int .i64 (fu l k)) := by
  obtain ⟨b, o, e, hlt, hc⟩ := h h0
  exact ⟨b, o, e, hlt, fun k hk => at_place hc hk⟩
theorem okAt_iff {l : List Int} {k : Nat} : okAt l k = true ↔ -2 ≤ fu l k ∧ fu l k < l.length ∧ (0 ≤ fu l k → fu l (fu l k).toNat ≠ -2) := by
  simp only [okAt, Bool.and_eq_true, decide_eq_true_eq, Bool.not_eq_true', Bool.and_eq_false_iff, decide_eq_false_iff_not]
  constructor
  · rintro ⟨h1, h2, h3⟩
    exact ⟨h1, h2, fun h0 => h3.resolve_left (fun q => q h0)⟩
  · rintro ⟨h1, h2, h3⟩
    refine ⟨h1, h2, ?_⟩
    by_cases h0 : 0 ≤ fu l k
    · exact .inr (h3 h0)
    · exact .inl h0

def RG1 (W : World) (n : Nat) (l : List Int) (k : Nat) (p : Value) (wr : World) : Prop :=
  ∃ i : Nat, k + i = n ∧ p = .int .i64 i ∧ (∀ j, j < i → okAt l j = true) ∧ Below W.heap.size W wr
def RG2 (W : World) (n : Nat) (l : List Int) (k : Nat) (p : Value) (wr : World) : Prop :=
  ∃ i : Nat, k + i = n ∧ p = .int .i64 i ∧ (∀ j, j < i → ends l n j = true) ∧ Below W.heap.size W wr
/-- c places have been counted, z is the next one -/
def RG3 (W : World) (n : Nat) (l : List Int) (i : Nat) (k : Nat) (p q : Value) (wr : World) : Prop :=
  ∃ (c : Nat) (z : Int), k + c = n + 1 ∧ p = .int .i64 c ∧ q = .int .i64 z ∧ -2 ≤ z ∧ z < n ∧ (c ≤ n → ends l n i = ends l (n - c) z) ∧ (n < c → ends l n i = false) ∧ Below W.heap.size W wr

end Go.Proofs.Ythooeahpfegjbaa
