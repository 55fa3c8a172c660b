/-
  Forests as plain data: which may be, how deep, what is above whom. No condition.
-/
import Derived.Test.YthooeahpfegjbaaCo
namespace Go.Proofs.Ythooeahpfegjbaa

/-! ### lists -/
theorem sub_length {α : Type} [DecidableEq α] : ∀ (l m : List α), l.Nodup → (∀ x ∈ l, x ∈ m) → l.length ≤ m.length
  | [], _, _, _ => Nat.zero_le _
  | a :: l, m, hn, hs => by
    have ha : a ∈ m := hs a (List.mem_cons_self ..)
    obtain ⟨h1, h2⟩ := List.nodup_cons.1 hn
    have := sub_length l (m.erase a) h2 fun x hx => by
      have hne : x ≠ a := fun e => h1 (e ▸ hx)
      exact (List.mem_erase_of_ne hne).2 (hs x (List.mem_cons_of_mem _ hx))
    rw [List.length_erase_of_mem ha] at this
    have : 0 < m.length := List.length_pos_of_mem ha
    rw [List.length_cons]
    omega
theorem same_length {α : Type} [DecidableEq α] {l m : List α} (hl : l.Nodup) (hm : m.Nodup) (h : ∀ x, x ∈ l ↔ x ∈ m) : l.length = m.length :=
  Nat.le_antisymm (sub_length l m hl fun x hx => (h x).1 hx) (sub_length m l hm fun x hx => (h x).2 hx)

theorem neg_or (k : Int) : k < 0 ∨ 0 ≤ k := by omega
/-! ### what each came of -/
def fu (l : List Int) (k : Nat) : Int := l.getD k (-2)
theorem fu_at {l : List Int} {k : Nat} {z : Int} (h : l[k]? = some z) : fu l k = z := by rw [fu, List.getD_eq_getElem?_getD, h]; rfl
theorem fu_get {l : List Int} {k : Nat} (h : k < l.length) : l[k]? = some (fu l k) := by rw [fu, List.getD_eq_getElem?_getD, List.getElem?_eq_getElem h]; rfl
theorem fu_out {l : List Int} {k : Nat} (h : l.length ≤ k) : fu l k = -2 := by rw [fu, List.getD_eq_getElem?_getD, List.getElem?_eq_none h]; rfl
theorem fu_in {l : List Int} {k : Nat} (h : fu l k ≠ -2) : k < l.length := by
  rcases Nat.lt_or_ge k l.length with h1 | h1
  · exact h1
  · exact absurd (fu_out h1) h
/-- the places from k upwards, at most f of them -/
def chain (l : List Int) : Nat → Int → List Nat
  | 0, _ => []
  | f + 1, k => if k < 0 then [] else k.toNat :: chain l f (fu l k.toNat)
/-- does one come to an end within f places? -/
def ends (l : List Int) : Nat → Int → Bool
  | 0, k => decide (k < 0)
  | f + 1, k => decide (k < 0) || ends l f (fu l k.toNat)
def okAt (l : List Int) (k : Nat) : Bool := decide (-2 ≤ fu l k) && (decide (fu l k < l.length) && !(decide (0 ≤ fu l k) && decide (fu l (fu l k).toNat = -2)))
/-- a forest that may be -/
def fgood (l : List Int) : Bool := decide (l.length ≤ 96) && ((List.range l.length).all (okAt l) && (List.range l.length).all fun i => ends l l.length i)
/-- the same, to work with -/
structure Fo (l : List Int) : Prop where
  few : l.length ≤ 96
  low : ∀ k, -2 ≤ fu l k
  up : ∀ (k j : Nat), fu l k = j → j < l.length ∧ fu l j ≠ -2
  fin : ∀ k, k < l.length → ends l l.length k = true
theorem fo_iff {l : List Int} : fgood l = true ↔ Fo l := by
  simp only [fgood, Bool.and_eq_true, decide_eq_true_eq, List.all_eq_true, List.mem_range, okAt, Bool.not_eq_true', Bool.and_eq_false_iff, decide_eq_false_iff_not]
  constructor
  · rintro ⟨h1, h2, h3⟩
    refine ⟨h1, fun k => ?_, fun k j hj => ?_, h3⟩
    · rcases Nat.lt_or_ge k l.length with h | h
      · exact (h2 k h).1
      · rw [fu_out h]; omega
    · have hk : k < l.length := fu_in (by omega)
      obtain ⟨_, h4, h5⟩ := h2 k hk
      rw [hj] at h4 h5
      refine ⟨by omega, fun e => ?_⟩
      rcases h5 with h5 | h5
      · omega
      · exact h5 (by simpa using e)
  · rintro ⟨h1, h2, h3, h4⟩
    refine ⟨h1, fun k hk => ⟨h2 k, ?_, ?_⟩, h4⟩
    · rcases neg_or (fu l k) with h | h
      · omega
      · have := (h3 k (fu l k).toNat (by omega)).1
        omega
    · rcases neg_or (fu l k) with h | h
      · exact .inl (by omega)
      · exact .inr (h3 k (fu l k).toNat (by omega)).2

/-! ### chains -/
theorem ends_neg {l : List Int} {k : Int} (h : k < 0) : ∀ f, ends l f k = true
  | 0 => by simp [ends, h]
  | f + 1 => by simp [ends, h]
theorem ends_succ {l : List Int} {f : Nat} {k : Int} (h : 0 ≤ k) : ends l (f + 1) k = ends l f (fu l k.toNat) := by
  rw [ends, decide_eq_false (by omega), Bool.false_or]
theorem ends_more {l : List Int} : ∀ {f : Nat} {k : Int}, ends l f k = true → ends l (f + 1) k = true
  | 0, k, h => ends_neg (by simpa [ends] using h) 1
  | f + 1, k, h => by
    rcases neg_or k with hk | hk
    · exact ends_neg hk _
    · rw [ends_succ hk] at h ⊢
      exact ends_more h
theorem ends_le {l : List Int} {f g : Nat} {k : Int} (h : ends l f k = true) (hg : f ≤ g) : ends l g k = true := by
  induction hg with
  | refl => exact h
  | step _ ih => exact ends_more ih
theorem chain_neg {l : List Int} {k : Int} (h : k < 0) : ∀ f, chain l f k = []
  | 0 => rfl
  | f + 1 => by rw [chain, if_pos h]
theorem chain_succ {l : List Int} {f : Nat} {k : Int} (h : 0 ≤ k) : chain l (f + 1) k = k.toNat :: chain l f (fu l k.toNat) := by
  rw [chain, if_neg (by omega)]
theorem chain_more {l : List Int} : ∀ {f : Nat} {k : Int}, ends l f k = true → chain l (f + 1) k = chain l f k
  | 0, k, h => chain_neg (by simpa [ends] using h) 1
  | f + 1, k, h => by
    rcases neg_or k with hk | hk
    · rw [chain_neg hk, chain_neg hk]
    · rw [ends_succ hk] at h
      rw [chain_succ hk, chain_succ hk, chain_more h]
theorem chain_le {l : List Int} {f g : Nat} {k : Int} (h : ends l f k = true) (hg : f ≤ g) : chain l g k = chain l f k := by
  induction hg with
  | refl => rfl
  | step hs ih => rw [chain_more (ends_le h hs), ih]
theorem ends_len {l : List Int} : ∀ {f : Nat} {k : Int}, ends l f k = true → ends l (chain l f k).length k = true
  | 0, k, h => h
  | f + 1, k, h => by
    rcases neg_or k with hk | hk
    · exact ends_neg hk _
    · rw [ends_succ hk] at h
      rw [chain_succ hk, List.length_cons, ends_succ hk]
      exact ends_len h
theorem chain_len {l : List Int} : ∀ (f : Nat) (k : Int), (chain l f k).length ≤ f
  | 0, _ => by simp [chain]
  | f + 1, k => by
    rcases neg_or k with hk | hk
    · rw [chain_neg hk]; simp
    · rw [chain_succ hk, List.length_cons]
      have := chain_len (l := l) f (fu l k.toNat)
      omega
/-- one's own places upwards, all of them -/
def ups (l : List Int) (k : Int) : List Nat := chain l l.length k
/-- those above it -/
def above (l : List Int) (k : Nat) : List Nat := ups l (fu l k)
section
variable {l : List Int}
theorem Fo.ends_up (h : Fo l) (k : Nat) : ends l l.length (fu l k) = true := by
  rcases neg_or (fu l k) with hk | hk
  · exact ends_neg hk _
  · have h1 := h.up k (fu l k).toNat (by omega)
    have := h.fin _ h1.1
    rwa [show (((fu l k).toNat : Nat) : Int) = fu l k by omega] at this
theorem ups_neg {k : Int} (h : k < 0) : ups l k = [] := chain_neg h _
theorem Fo.ups_cons (h : Fo l) {k : Nat} (hk : k < l.length) : ups l k = k :: above l k := by
  have h1 := h.fin k hk
  rw [ups, ← chain_more h1, chain_succ (by omega), above, ups]
  simp
theorem Fo.above_cons (h : Fo l) {k j : Nat} (hj : fu l k = j) : above l k = j :: above l j := by
  rw [above, hj]
  exact h.ups_cons (h.up k j hj).1
theorem above_none {k : Nat} (h : fu l k < 0) : above l k = [] := ups_neg h
/-- how deep -/
def dep (l : List Int) (k : Nat) : Nat := (above l k).length
theorem Fo.dep_succ (h : Fo l) {k j : Nat} (hj : fu l k = j) : dep l k = dep l j + 1 := by rw [dep, h.above_cons hj]; rfl
theorem dep_zero {k : Nat} (h : fu l k < 0) : dep l k = 0 := by rw [dep, above_none h]; rfl
/-- what is above is less deep -/
theorem Fo.above_dep (h : Fo l) : ∀ (n k : Nat), dep l k = n → ∀ j ∈ above l k, dep l j < n ∧ j < l.length ∧ fu l j ≠ -2
  | 0, k, hk, j, hj => by
    rw [dep, List.length_eq_zero_iff] at hk
    rw [hk] at hj
    cases hj
  | n + 1, k, hk, j, hj => by
    rcases neg_or (fu l k) with h0 | h0
    · rw [dep_zero h0] at hk
      omega
    · obtain ⟨i, hi⟩ : ∃ i : Nat, fu l k = i := ⟨(fu l k).toNat, by omega⟩
      rw [h.above_cons hi, List.mem_cons] at hj
      rw [h.dep_succ hi] at hk
      rcases hj with rfl | hj
      · have := h.up k j hi
        exact ⟨by omega, this.1, this.2⟩
      · have := h.above_dep n i (by omega) j hj
        exact ⟨by omega, this.2.1, this.2.2⟩
theorem Fo.above_lt (h : Fo l) {k j : Nat} (hj : j ∈ above l k) : dep l j < dep l k ∧ j < l.length ∧ fu l j ≠ -2 := h.above_dep _ k rfl j hj
theorem Fo.above_trans (h : Fo l) : ∀ (n k : Nat), dep l k = n → ∀ j ∈ above l k, ∀ i ∈ above l j, i ∈ above l k
  | 0, k, hk, j, hj => by
    rw [dep, List.length_eq_zero_iff] at hk
    rw [hk] at hj
    cases hj
  | n + 1, k, hk, j, hj => by
    rcases neg_or (fu l k) with h0 | h0
    · rw [dep_zero h0] at hk
      omega
    · obtain ⟨i, hi⟩ : ∃ i : Nat, fu l k = i := ⟨(fu l k).toNat, by omega⟩
      rw [h.above_cons hi, List.mem_cons] at hj
      rw [h.dep_succ hi] at hk
      intro x hx
      rw [h.above_cons hi]
      rcases hj with rfl | hj
      · exact List.mem_cons_of_mem _ hx
      · exact List.mem_cons_of_mem _ (h.above_trans n i (by omega) j hj x hx)
theorem Fo.above_nodup (h : Fo l) : ∀ (n k : Nat), dep l k = n → (above l k).Nodup
  | 0, k, hk => by
    rw [dep, List.length_eq_zero_iff] at hk
    rw [hk]
    exact List.nodup_nil
  | n + 1, k, hk => by
    rcases neg_or (fu l k) with h0 | h0
    · rw [dep_zero h0] at hk
      omega
    · obtain ⟨i, hi⟩ : ∃ i : Nat, fu l k = i := ⟨(fu l k).toNat, by omega⟩
      rw [h.dep_succ hi] at hk
      rw [h.above_cons hi]
      refine List.nodup_cons.2 ⟨fun hm => ?_, h.above_nodup n i (by omega)⟩
      have := (h.above_lt hm).1
      omega
/-- of two that are above the same one and as deep, there is one -/
theorem Fo.above_one (h : Fo l) : ∀ (n k : Nat), dep l k = n → ∀ i ∈ above l k, ∀ j ∈ above l k, dep l i = dep l j → i = j
  | 0, k, hk, i, hi => by
    rw [dep, List.length_eq_zero_iff] at hk
    rw [hk] at hi
    cases hi
  | n + 1, k, hk, i, hi => by
    intro j hj he
    rcases neg_or (fu l k) with h0 | h0
    · rw [dep_zero h0] at hk
      omega
    · obtain ⟨x, hx⟩ : ∃ i : Nat, fu l k = i := ⟨(fu l k).toNat, by omega⟩
      rw [h.dep_succ hx] at hk
      rw [h.above_cons hx, List.mem_cons] at hi hj
      rcases hi with rfl | hi <;> rcases hj with rfl | hj
      · rfl
      · have := (h.above_lt hj).1; omega
      · have := (h.above_lt hi).1; omega
      · exact h.above_one n x (by omega) i hi j hj he
theorem Fo.dep_lt (h : Fo l) {k : Nat} (hk : k < l.length) : dep l k < l.length := by
  have h1 : (ups l k).length ≤ l.length := chain_len _ _
  rw [h.ups_cons hk, List.length_cons] at h1
  exact h1
end
end Go.Proofs.Ythooeahpfegjbaa
