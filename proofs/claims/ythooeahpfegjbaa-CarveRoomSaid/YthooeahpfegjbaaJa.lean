/-
  What is reached from a place along given pairs, round by round: after as many rounds as there are places nothing more comes in. No condition.
-/
import Derived.Test.YthooeahpfegjbaaEx
namespace Go.Proofs.Ythooeahpfegjbaa

/-- what is reached from a place along pairs -/
inductive Rch (E : List (Nat × Nat)) (a : Nat) : Nat → Prop where
  | self : Rch E a a
  | step {x y : Nat} : Rch E a x → (x, y) ∈ E → Rch E a y
/-- one pair after the other: what has its first has its second -/
def kcome (s : Nat → Bool) (e : Nat × Nat) : Nat → Bool := if s e.1 = true then fun k => k == e.2 || s k else s
def kround (E : List (Nat × Nat)) (s : Nat → Bool) : Nat → Bool := E.foldl kcome s
def krounds (E : List (Nat × Nat)) : Nat → (Nat → Bool) → Nat → Bool
  | 0, s => s
  | m + 1, s => krounds E m (kround E s)
def kstart (a : Nat) : Nat → Bool := fun k => k == a
theorem krounds_succ (E : List (Nat × Nat)) : ∀ (m : Nat) (s : Nat → Bool), krounds E (m + 1) s = kround E (krounds E m s)
  | 0, _ => rfl
  | m + 1, s => by rw [krounds, krounds_succ E m, krounds]
theorem kcome_le {s : Nat → Bool} {e : Nat × Nat} {k : Nat} (h : s k = true) : kcome s e k = true := by
  unfold kcome
  split
  · simp [h]
  · exact h
theorem kcome_mono {s t : Nat → Bool} (hst : ∀ k, s k = true → t k = true) {e : Nat × Nat} {k : Nat} (h : kcome s e k = true) : kcome t e k = true := by
  unfold kcome at h
  split at h
  · rename_i h1
    unfold kcome
    rw [if_pos (hst _ h1)]
    rw [Bool.or_eq_true] at h ⊢
    exact h.imp id (hst k)
  · exact kcome_le (hst k h)
theorem kround_le : ∀ (E : List (Nat × Nat)) {s : Nat → Bool} {k : Nat}, s k = true → kround E s k = true
  | [], _, _, h => h
  | _ :: E, _, _, h => kround_le E (kcome_le h)
theorem kround_mono : ∀ (E : List (Nat × Nat)) {s t : Nat → Bool}, (∀ k, s k = true → t k = true) → ∀ {k : Nat}, kround E s k = true → kround E t k = true
  | [], _, _, hst, k, h => hst k h
  | e :: E, s, t, hst, _, h => kround_mono E (s := kcome s e) (t := kcome t e) (fun _ q => kcome_mono hst q) h
theorem kround_has : ∀ (E : List (Nat × Nat)) {s : Nat → Bool} {e : Nat × Nat}, e ∈ E → s e.1 = true → kround E s e.2 = true
  | f :: E, s, e, he, h => by
    rcases List.mem_cons.1 he with rfl | he
    · exact kround_le E (by unfold kcome; rw [if_pos h]; simp)
    · exact kround_has E he (kcome_le h)
theorem kround_reach (a : Nat) (E0 : List (Nat × Nat)) : ∀ (E : List (Nat × Nat)), (∀ e ∈ E, e ∈ E0) → ∀ {s : Nat → Bool}, (∀ k, s k = true → Rch E0 a k) → ∀ k, kround E s k = true → Rch E0 a k
  | [], _, _, h, k, q => h k q
  | e :: E, hE, s, h, k, q => by
    refine kround_reach a E0 E (fun x hx => hE x (List.mem_cons_of_mem _ hx)) (s := kcome s e) (fun j hj => ?_) k q
    unfold kcome at hj
    split at hj
    · rename_i h1
      rcases Bool.or_eq_true _ _ ▸ hj with h2 | h2
      · rw [beq_iff_eq.1 h2]
        exact .step (h _ h1) (hE e (List.mem_cons_self ..))
      · exact h j h2
    · exact h j hj
def Kshut (E : List (Nat × Nat)) (s : Nat → Bool) : Prop := ∀ e ∈ E, s e.1 = true → s e.2 = true
theorem kround_shut : ∀ {E : List (Nat × Nat)} {s : Nat → Bool}, Kshut E s → kround E s = s
  | [], _, _ => rfl
  | e :: E, s, h => by
    have hc : kcome s e = s := by
      unfold kcome
      split
      · rename_i h1
        have h2 := h e (List.mem_cons_self ..) h1
        funext k
        rcases Decidable.em (k = e.2) with rfl | hk
        · simp [h2]
        · simp [hk]
      · rfl
    show kround E (kcome s e) = s
    rw [hc]
    exact kround_shut fun x hx => h x (List.mem_cons_of_mem _ hx)
def kmany (n : Nat) (s : Nat → Bool) : Nat := ((List.range n).filter s).length
theorem kmany_le (n : Nat) (s : Nat → Bool) : kmany n s ≤ n := by
  have := List.length_filter_le s (List.range n)
  rwa [List.length_range] at this
theorem kfilter_lt {l : List Nat} {s t : Nat → Bool} (h : ∀ k, s k = true → t k = true) : (l.filter s).length ≤ (l.filter t).length := by
  induction l with
  | nil => exact Nat.le_refl _
  | cons x l ih =>
    cases hs : s x with
    | true => rw [List.filter_cons_of_pos hs, List.filter_cons_of_pos (h x hs), List.length_cons, List.length_cons]; omega
    | false =>
      rw [List.filter_cons_of_neg (by rw [hs]; decide)]
      cases ht : t x with
      | true => rw [List.filter_cons_of_pos ht, List.length_cons]; omega
      | false => rw [List.filter_cons_of_neg (by rw [ht]; decide)]; exact ih
theorem kfilter_more {l : List Nat} {s t : Nat → Bool} (h : ∀ k, s k = true → t k = true) {y : Nat} (hy : y ∈ l) (hs : s y = false) (ht : t y = true) : (l.filter s).length < (l.filter t).length := by
  induction l with
  | nil => cases hy
  | cons x l ih =>
    rcases List.mem_cons.1 hy with rfl | hy
    · rw [List.filter_cons_of_neg (by rw [hs]; decide), List.filter_cons_of_pos ht, List.length_cons]
      have := kfilter_lt (l := l) h
      omega
    · have := ih hy
      cases hsx : s x with
      | true => rw [List.filter_cons_of_pos hsx, List.filter_cons_of_pos (h x hsx), List.length_cons, List.length_cons]; omega
      | false =>
        rw [List.filter_cons_of_neg (by rw [hsx]; decide)]
        cases htx : t x with
        | true => rw [List.filter_cons_of_pos htx, List.length_cons]; omega
        | false => rw [List.filter_cons_of_neg (by rw [htx]; decide)]; exact this
theorem kshut_or {E : List (Nat × Nat)} {n a : Nat} (hE : ∀ e ∈ E, e.2 < n) (ha : a < n) : ∀ m, Kshut E (krounds E m (kstart a)) ∨ m + 1 ≤ kmany n (krounds E m (kstart a))
  | 0 => by
    refine .inr ?_
    have hm : a ∈ (List.range n).filter (kstart a) := List.mem_filter.2 ⟨List.mem_range.2 ha, by simp [kstart]⟩
    have := List.length_pos_of_mem hm
    exact this
  | m + 1 => by
    rw [krounds_succ]
    rcases kshut_or hE ha m with h | h
    · exact .inl (by rw [kround_shut h]; exact h)
    · by_cases hs : Kshut E (krounds E m (kstart a))
      · exact .inl (by rw [kround_shut hs]; exact hs)
      · refine .inr ?_
        obtain ⟨e, he, h1, h2⟩ : ∃ e ∈ E, krounds E m (kstart a) e.1 = true ∧ krounds E m (kstart a) e.2 = false := by
          refine Classical.byContradiction fun q => hs fun e he h1 => ?_
          rcases h2 : krounds E m (kstart a) e.2 with _ | _
          · exact absurd ⟨e, he, h1, h2⟩ q
          · rfl
        have := kfilter_more (l := List.range n) (s := krounds E m (kstart a)) (t := kround E (krounds E m (kstart a))) (fun k => kround_le E) (List.mem_range.2 (hE e he)) h2 (kround_has E he h1)
        unfold kmany at h ⊢
        omega
/-- after as many rounds as there are places: just what is reached -/
theorem krounds_reach {E : List (Nat × Nat)} {n a : Nat} (hE : ∀ e ∈ E, e.2 < n) (ha : a < n) (k : Nat) : krounds E n (kstart a) k = true ↔ Rch E a k := by
  constructor
  · have key : ∀ m k, krounds E m (kstart a) k = true → Rch E a k := by
      intro m
      induction m with
      | zero =>
        intro k h
        rw [beq_iff_eq.1 (show (k == a) = true from h)]
        exact .self
      | succ m ih =>
        intro k h
        rw [krounds_succ] at h
        exact kround_reach a E E (fun _ h => h) ih k h
    exact key n k
  · intro h
    have hs : Kshut E (krounds E n (kstart a)) := by
      rcases kshut_or hE ha n with h | h
      · exact h
      · have := kmany_le n (krounds E n (kstart a))
        omega
    have h0 : ∀ m, krounds E m (kstart a) a = true := by
      intro m
      induction m with
      | zero => simp [krounds, kstart]
      | succ m ih => rw [krounds_succ]; exact kround_le E ih
    induction h with
    | self => exact h0 n
    | step _ he ih => exact hs _ he ih
end Go.Proofs.Ythooeahpfegjbaa
