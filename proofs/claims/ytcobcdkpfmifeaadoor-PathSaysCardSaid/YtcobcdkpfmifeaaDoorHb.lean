/-
  A text cut at its points, and what its pieces are. No condition.
-/
import Derived.Test.YtcobcdkpfmifeaaDoorHa
namespace Go.Proofs.YtcobcdkpfmifeaaDoor
open Go.RowKit

theorem occ_one (s : List UInt8) (j : Nat) : Lib.occAt s [46] j = true ↔ s[j]? = some 46 := by
  unfold Lib.occAt
  rw [← List.head?_drop]
  cases s.drop j with
  | nil => simp
  | cons b l =>
    simp only [List.isPrefixOf, Bool.and_true, beq_iff_eq, List.head?_cons, Option.some.injEq]
    exact eq_comm
theorem index_no {s : List UInt8} (h : 46 ∉ s) : Lib.index s [46] = -1 := by
  refine Lib.index_none fun j _ => ?_
  rw [Bool.eq_false_iff]
  intro e
  exact h (List.mem_of_getElem? ((occ_one s j).1 e))
theorem index_yes {x r : List UInt8} (h : 46 ∉ x) : Lib.index (x ++ 46 :: r) [46] = x.length := by
  refine Lib.index_first (by simp) ((occ_one _ _).2 (by simp)) fun j hj => ?_
  rw [Bool.eq_false_iff]
  intro e
  have := (occ_one _ _).1 e
  rw [List.getElem?_append_left hj] at this
  exact h (List.mem_of_getElem? this)
theorem cut_no {s : List UInt8} (h : 46 ∉ s) : ∀ k, Lib.splitK [46] 0 k s = [s]
  | 0 => rfl
  | k + 1 => by
    unfold Lib.splitK
    rw [index_no h]
    rfl
theorem cut_yes {x r : List UInt8} (h : 46 ∉ x) (k : Nat) : Lib.splitK [46] 0 (k + 1) (x ++ 46 :: r) = x :: Lib.splitK [46] 0 k r := by
  rw [Lib.splitK, index_yes h, if_neg (by simp only [beq_iff_eq]; omega), Int.toNat_natCast]
  congr 1
  · simp
  · congr 1
    rw [show x.length + ([46] : List UInt8).length = x.length + 1 from rfl, List.drop_append]
    simp
theorem join_cut : ∀ (k : Nat) (s : List UInt8), Lib.join (Lib.splitK [46] 0 k s) [46] = s
  | 0, s => by rw [Lib.splitK, Lib.join_one]
  | k + 1, s => by
    by_cases h : (46 : UInt8) ∈ s
    · obtain ⟨x, r, rfl, hx⟩ := List.eq_append_cons_of_mem h
      have ih := join_cut k r
      rw [cut_yes hx]
      cases hc : Lib.splitK [46] 0 k r with
      | nil => cases k <;> (unfold Lib.splitK at hc; first | (split at hc <;> cases hc) | cases hc)
      | cons y t =>
        rw [hc, Lib.join_cons] at ih
        rw [Lib.join_cons, Lib.joinTail, List.map_cons, List.flatten_cons, ← Lib.joinTail, ← ih]
        simp
    · rw [cut_no h, Lib.join_one]
theorem cut_join : ∀ (r : List (List UInt8)) (x : List UInt8) (k : Nat), (∀ y ∈ x :: r, (46 : UInt8) ∉ y) → r.length ≤ k → Lib.splitK [46] 0 k (Lib.join (x :: r) [46]) = x :: r
  | [], x, k, h, _ => by rw [Lib.join_one, cut_no (h x (List.mem_cons_self ..))]
  | y :: r, x, 0, _, hk => by simp at hk
  | y :: r, x, k + 1, h, hk => by
    have ih := cut_join r y k (fun z hz => h z (List.mem_cons_of_mem _ hz)) (by simpa using hk)
    have e : Lib.join (x :: y :: r) [46] = x ++ 46 :: Lib.join (y :: r) [46] := by
      rw [Lib.join_cons, Lib.join_cons, Lib.joinTail, List.map_cons, List.flatten_cons, ← Lib.joinTail]
      simp
    rw [e, cut_yes (h x (List.mem_cons_self ..)), ih]
theorem cut_few : ∀ (k : Nat) (s : List UInt8), 1 ≤ (Lib.splitK [46] 0 k s).length ∧ (Lib.splitK [46] 0 k s).length ≤ k + 1
  | 0, s => by simp [Lib.splitK]
  | k + 1, s => by
    unfold Lib.splitK
    split
    · simp
    · have := cut_few k (s.drop ((Lib.index s [46]).toNat + [46].length))
      rw [List.length_cons]
      omega

/-- the pieces that the program makes of a text -/
def cuts (s : List UInt8) : List (List UInt8) := Lib.splitK [46] 0 (min 3 (s.length + 1) - 1) s
theorem cuts_few (s : List UInt8) : 1 ≤ (cuts s).length ∧ (cuts s).length ≤ 3 := by
  have := cut_few (min 3 (s.length + 1) - 1) s
  unfold cuts
  omega
/-- the step of a piece -/
def unstep (p : List UInt8) : Option Nat := (List.range 16).find? fun n => dec n == p
theorem unstep_some {p : List UInt8} {n : Nat} (h : unstep p = some n) : n < 16 ∧ dec n = p := by
  have h1 := List.mem_of_find?_eq_some h
  have h2 := List.find?_some h
  rw [beq_iff_eq] at h2
  exact ⟨List.mem_range.1 h1, h2⟩
theorem unstep_none {p : List UInt8} (h : unstep p = none) {n : Nat} (hn : n < 16) : dec n ≠ p := fun e => by
  have := List.find?_eq_none.1 h n (List.mem_range.2 hn)
  exact this (beq_iff_eq.2 e)
theorem dec_inj : ∀ n < 16, ∀ m < 16, dec n = dec m → n = m := by decide +kernel
theorem unstep_dec {n : Nat} (h : n < 16) : unstep (dec n) = some n := by
  cases hu : unstep (dec n) with
  | none => exact absurd rfl (unstep_none hu h)
  | some m =>
    obtain ⟨h1, h2⟩ := unstep_some hu
    rw [dec_inj m h1 n h h2]
theorem dec_plain : ∀ n < 16, (46 : UInt8) ∉ dec n := by decide +kernel
/-- the way of these pieces -/
def stepsOf (ps : List (List UInt8)) : List Int := ps.map fun p => (((unstep p).getD 0 : Nat) : Int)
theorem parse_yes {s : List UInt8} (h : ∀ p ∈ cuts s, unstep p ≠ none) : pparse s = some (stepsOf (cuts s)) := by
  have hs : ∀ p ∈ cuts s, (unstep p).getD 0 < 16 ∧ dec ((unstep p).getD 0) = p := fun p hp => by
    cases hu : unstep p with
    | none => exact absurd hu (h p hp)
    | some n => exact unstep_some hu
  have hg : pgood (stepsOf (cuts s)) = true := by
    have := cuts_few s
    refine pgood_iff.2 ⟨by simpa [stepsOf] using this.1, by simpa [stepsOf] using this.2, fun z hz => ?_⟩
    obtain ⟨p, hp, rfl⟩ := List.mem_map.1 hz
    have := (hs p hp).1
    omega
  have ht : ptext (stepsOf (cuts s)) = s := by
    rw [ptext, if_pos hg, stepsOf, List.map_map]
    have e : (cuts s).map ((fun z : Int => dec z.toNat) ∘ fun p => (((unstep p).getD 0 : Nat) : Int)) = cuts s := by
      conv => rhs; rw [← List.map_id (cuts s)]
      refine List.map_congr_left fun p hp => ?_
      show dec ((((unstep p).getD 0 : Nat) : Int)).toNat = p
      rw [Int.toNat_natCast]
      exact (hs p hp).2
    rw [e]
    exact join_cut _ s
  have := pparse_ptext hg
  rwa [ht] at this
theorem cuts_ptext {l : List Int} (h : pgood l = true) : cuts (ptext l) = l.map fun z => dec z.toNat := by
  obtain ⟨h1, h2, h3⟩ := pgood_iff.1 h
  match l, h1 with
  | z :: r, _ =>
    have e : ptext (z :: r) = Lib.join (dec z.toNat :: r.map fun z => dec z.toNat) [46] := by rw [ptext, if_pos h, List.map_cons]
    have hl : 2 * r.length + 1 ≤ (ptext (z :: r)).length := by
      have hd := dec_length z.toNat (by have := h3 z (List.mem_cons_self ..); omega)
      have hr : ∀ (r : List Int), (∀ z ∈ r, 0 ≤ z ∧ z ≤ 15) → r.length ≤ Lib.lens (r.map fun z => dec z.toNat) := by
        intro r
        induction r with
        | nil => intro _; simp
        | cons y t ih =>
          intro hy
          have := ih fun q hq => hy q (List.mem_cons_of_mem _ hq)
          have := dec_length y.toNat (by have := hy y (List.mem_cons_self ..); omega)
          have e : Lib.lens ((y :: t).map fun z => dec z.toNat) = (dec y.toNat).length + Lib.lens (t.map fun z => dec z.toNat) := by simp [Lib.lens]
          rw [e, List.length_cons]
          omega
      have := hr r fun y hy => h3 y (List.mem_cons_of_mem _ hy)
      have e2 : Lib.lens (dec z.toNat :: r.map fun z => dec z.toNat) = (dec z.toNat).length + Lib.lens (r.map fun z => dec z.toNat) := by simp [Lib.lens]
      rw [e, Lib.join_length, e2, List.length_map]
      simp only [List.length_cons, List.length_nil]
      omega
    have hc := cut_join (r.map fun z => dec z.toNat) (dec z.toNat) (min 3 ((ptext (z :: r)).length + 1) - 1) (fun y hy => by
      have hy : y ∈ (z :: r).map fun z => dec z.toNat := hy
      obtain ⟨x, hx, rfl⟩ := List.mem_map.1 hy
      have := h3 x hx
      exact dec_plain x.toNat (by omega)) (by
      rw [List.length_map]
      simp only [List.length_cons] at h2
      omega)
    rw [← e] at hc
    exact hc
theorem parse_no {s p : List UInt8} (hp : p ∈ cuts s) (hu : unstep p = none) : pparse s = none := by
  cases h : pparse s with
  | none => rfl
  | some l =>
    obtain ⟨h1, rfl⟩ := pparse_some h
    rw [cuts_ptext h1] at hp
    obtain ⟨z, hz, rfl⟩ := List.mem_map.1 hp
    have := (pgood_iff.1 h1).2.2 z hz
    rw [unstep_dec (by omega)] at hu
    cases hu
/-- the same of texts as they lie in memory -/
theorem pieces (s : ByteArray) : (Lib.splitB ⟨#[46]⟩ 0 (min 3 (s.size + 1) - 1) s).map (·.data.toList) = cuts s.data.toList := by
  rw [Lib.splitB_data, cuts]
  rfl
end Go.Proofs.YtcobcdkpfmifeaaDoor
