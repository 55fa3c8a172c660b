/-
  Counting by kinds; the first free run of places. No condition.
-/
import Derived.Test.YthooeahpfegjbaaJa
namespace Go.Proofs.Ythooeahpfegjbaa

/-! ### of each kind so many: all together -/
def ksum (f : Nat → Nat) : Nat → Nat
  | 0 => 0
  | k + 1 => ksum f k + f k
theorem ksum_add (f g : Nat → Nat) : ∀ k, ksum (fun t => f t + g t) k = ksum f k + ksum g k
  | 0 => rfl
  | k + 1 => by rw [ksum, ksum_add f g k, ksum, ksum]; omega
theorem ksum_zero : ∀ k, ksum (fun _ => 0) k = 0
  | 0 => rfl
  | k + 1 => by rw [ksum, ksum_zero k]
theorem ksum_one (x : Nat) : ∀ k, ksum (fun t => if x = t then 1 else 0) k = if x < k then 1 else 0
  | 0 => rfl
  | k + 1 => by
    rw [ksum, ksum_one x k]
    by_cases h1 : x < k
    · rw [if_pos h1, if_neg (by omega), if_pos (by omega)]
    · rw [if_neg h1]
      by_cases h2 : x = k
      · rw [if_pos h2, if_pos (by omega)]
      · rw [if_neg h2, if_neg (by omega)]
theorem count_kinds (f : Nat → Nat) (k : Nat) : ∀ (l : List Nat), (∀ i ∈ l, f i < k) → ksum (fun t => (l.filter fun i => decide (f i = t)).length) k = l.length
  | [], _ => by simpa using ksum_zero k
  | x :: l, h => by
    have ih := count_kinds f k l fun i hi => h i (List.mem_cons_of_mem _ hi)
    have e : (fun t => ((x :: l).filter fun i => decide (f i = t)).length) = fun t => (l.filter fun i => decide (f i = t)).length + (if f x = t then 1 else 0) := by
      funext t
      by_cases ht : f x = t
      · rw [List.filter_cons_of_pos (by simpa using ht), List.length_cons, if_pos ht]
      · rw [List.filter_cons_of_neg (by simpa using ht), if_neg ht]; rfl
    rw [e, ksum_add, ih, ksum_one, if_pos (h x (List.mem_cons_self ..)), List.length_cons]

/-! ### the first free run -/
def gapAt (own : Nat → Bool) (n base : Nat) : Bool := (List.range n).all fun j => !own (base + j)
/-- the least base from which n of m places are free -/
def gapF (own : Nat → Bool) (m n : Nat) : Option Nat := (List.range (m + 1 - n)).find? (gapAt own n)
/-- how many places just below i are free -/
def runOf (own : Nat → Bool) : Nat → Nat
  | 0 => 0
  | i + 1 => if own i = true then 0 else runOf own i + 1
theorem gapAt_iff {own : Nat → Bool} {n b : Nat} : gapAt own n b = true ↔ ∀ j, b ≤ j → j < b + n → own j = false := by
  simp only [gapAt, List.all_eq_true, List.mem_range, Bool.not_eq_true']
  constructor
  · intro h j h1 h2
    have := h (j - b) (by omega)
    rwa [show b + (j - b) = j by omega] at this
  · exact fun h j hj => h (b + j) (by omega) (by omega)
theorem runOf_le (own : Nat → Bool) : ∀ i, runOf own i ≤ i
  | 0 => Nat.le_refl _
  | i + 1 => by
    rw [runOf]
    split
    · omega
    · have := runOf_le own i
      omega
theorem runOf_free (own : Nat → Bool) : ∀ i j, i - runOf own i ≤ j → j < i → own j = false
  | 0, j, _, h => by omega
  | i + 1, j, h1, h2 => by
    rw [runOf] at h1
    split at h1
    · omega
    · rename_i h
      rcases Nat.lt_or_ge j i with hj | hj
      · exact runOf_free own i j (by omega) hj
      · obtain rfl : j = i := by omega
        exact Bool.eq_false_iff.2 h
theorem runOf_ge {own : Nat → Bool} {b : Nat} : ∀ n, gapAt own n b = true → n ≤ runOf own (b + n)
  | 0, _ => Nat.zero_le _
  | n + 1, h => by
    have h1 := gapAt_iff.1 h
    have ih := runOf_ge n (gapAt_iff.2 fun j x y => h1 j x (by omega))
    rw [← Nat.add_assoc, runOf, if_neg (by rw [h1 (b + n) (by omega) (by omega)]; decide)]
    omega
theorem find_least {p : Nat → Bool} : ∀ {k b : Nat}, b < k → p b = true → (∀ c, c < b → p c = false) → (List.range k).find? p = some b := by
  intro k b hb hp hn
  rw [List.find?_eq_some_iff_append]
  refine ⟨hp, List.range b, (List.range' (b + 1) (k - (b + 1))), ?_, fun c hc => by rw [hn c (List.mem_range.1 hc)]; rfl⟩
  rw [List.range_eq_range', List.range_eq_range', show k = b + (1 + (k - (b + 1))) by omega, ← List.range'_append_1, ← List.range'_append_1]
  simp
  omega
theorem gap_of_run {own : Nat → Bool} {m n i : Nat} (h0 : ∀ j, j ≤ i → runOf own j < n) (h1 : runOf own (i + 1) = n) (hm : i + 1 ≤ m) : gapF own m n = some (i + 1 - n) := by
  have hle := runOf_le own (i + 1)
  rw [h1] at hle
  refine find_least (by omega) (gapAt_iff.2 fun j x y => runOf_free own (i + 1) j (by omega) (by omega)) fun c hc => ?_
  refine Bool.eq_false_iff.2 fun hg => ?_
  have := runOf_ge n hg
  have := h0 (c + n) (by omega)
  omega
theorem gap_none {own : Nat → Bool} {m n : Nat} (h0 : ∀ j, j ≤ m → runOf own j < n) : gapF own m n = none := by
  rw [gapF, List.find?_eq_none]
  intro b hb hg
  rw [List.mem_range] at hb
  have := runOf_ge n hg
  have := h0 (b + n) (by omega)
  omega
end Go.Proofs.Ythooeahpfegjbaa
