/-
  The order of a forest: all of it, each once, each behind what it came of. No condition.
-/
import Derived.Test.YthooeahpfegjbaaEb
namespace Go.Proofs.Ythooeahpfegjbaa
section
variable {l : List Int}

theorem mem_kidsN {i k : Nat} : k ∈ kidsN l i ↔ k < l.length ∧ fu l k = i := by
  rw [kidsN, List.mem_filter, List.mem_range, decide_eq_true_eq]
theorem mem_rootsN {k : Nat} : k ∈ rootsN l ↔ k < l.length ∧ fu l k = -1 := by
  rw [rootsN, List.mem_filter, List.mem_range, decide_eq_true_eq]
/-- who is above comes over one that is straight below it -/
theorem Fo.above_through (h : Fo l) : ∀ (n x : Nat), dep l x = n → ∀ i ∈ above l x, ∃ k, fu l k = (i : Int) ∧ (x = k ∨ k ∈ above l x) := by
  intro n
  induction n using Nat.strongRecOn with
  | _ n ih =>
    intro x hd i hi
    rcases neg_or (fu l x) with h0 | h0
    · rw [above_none h0] at hi
      cases hi
    · obtain ⟨j, hj⟩ : ∃ j : Nat, fu l x = j := ⟨(fu l x).toNat, by omega⟩
      have h2 := h.dep_succ hj
      rw [h.above_cons hj, List.mem_cons] at hi
      rcases hi with rfl | hi
      · exact ⟨x, hj, .inl rfl⟩
      · obtain ⟨k, h3, h4⟩ := ih (dep l j) (by omega) j rfl i hi
        refine ⟨k, h3, .inr ?_⟩
        rw [h.above_cons hj]
        rcases h4 with rfl | h4
        · exact List.mem_cons_self ..
        · exact List.mem_cons_of_mem _ h4
theorem Fo.mem_down (h : Fo l) : ∀ (f i : Nat), i < l.length → l.length ≤ dep l i + f → ∀ x, x ∈ down l f i ↔ x = i ∨ i ∈ above l x
  | 0, i, hi, hf, x => by
    have := h.dep_lt hi
    omega
  | f + 1, i, hi, hf, x => by
    rw [down, List.mem_cons, List.mem_flatMap]
    constructor
    · rintro (e | ⟨k, hk, hx⟩)
      · exact .inl e
      · obtain ⟨h1, h2⟩ := mem_kidsN.1 hk
        have h3 := h.dep_succ h2
        have hik : i ∈ above l k := ((h.kid_iff i k).1 h2).1
        rcases (h.mem_down f k h1 (by omega) x).1 hx with rfl | h4
        · exact .inr hik
        · exact .inr (h.above_trans _ x rfl k h4 i hik)
    · rintro (e | hx)
      · exact .inl e
      · obtain ⟨k, h2, h4⟩ := h.above_through _ x rfl i hx
        have h1 : k < l.length := fu_in (by omega)
        have h3 := h.dep_succ h2
        exact .inr ⟨k, mem_kidsN.2 ⟨h1, h2⟩, (h.mem_down f k h1 (by omega) x).2 h4⟩
theorem Fo.down_apart (h : Fo l) {f g i k x : Nat} (hi : i < l.length) (hk : k < l.length) (hf : l.length ≤ dep l i + f) (hg : l.length ≤ dep l k + g) (hd : dep l i = dep l k) (h1 : x ∈ down l f i) (h2 : x ∈ down l g k) : i = k := by
  rcases (h.mem_down f i hi hf x).1 h1 with rfl | h1 <;> rcases (h.mem_down g k hk hg x).1 h2 with rfl | h2
  · rfl
  · have := (h.above_lt h2).1; omega
  · have := (h.above_lt h1).1; omega
  · exact h.above_one _ x rfl i h1 k h2 hd
theorem range_pick_nodup (n : Nat) (p : Nat → Bool) : ((List.range n).filter p).Nodup := List.nodup_range.sublist List.filter_sublist
theorem flat_nodup {a : List Nat} {g : Nat → List Nat} (ha : a.Nodup) (h1 : ∀ x ∈ a, (g x).Nodup) (h2 : ∀ x ∈ a, ∀ y ∈ a, ∀ z, z ∈ g x → z ∈ g y → x = y) : (a.flatMap g).Nodup := by
  rw [List.Nodup, List.pairwise_flatMap]
  refine ⟨h1, List.Pairwise.imp_of_mem (fun {x y} hx hy hne u hu v hv e => ?_) ha⟩
  subst e
  exact hne (h2 x hx y hy u hu hv)
theorem Fo.down_nodup (h : Fo l) : ∀ (f i : Nat), i < l.length → l.length ≤ dep l i + f → (down l f i).Nodup
  | 0, i, hi, hf => by
    have := h.dep_lt hi
    omega
  | f + 1, i, hi, hf => by
    rw [down]
    have hk : ∀ k ∈ kidsN l i, k < l.length ∧ fu l k = i ∧ dep l k = dep l i + 1 := fun k hk => by
      obtain ⟨h1, h2⟩ := mem_kidsN.1 hk
      exact ⟨h1, h2, h.dep_succ h2⟩
    refine List.nodup_cons.2 ⟨fun hm => ?_, flat_nodup (range_pick_nodup _ _) (fun k hm => ?_) fun a ha b hb z hz1 hz2 => ?_⟩
    · obtain ⟨k, hm, hx⟩ := List.mem_flatMap.1 hm
      obtain ⟨h1, h2, h3⟩ := hk k hm
      rcases (h.mem_down f k h1 (by omega) i).1 hx with rfl | h4
      · omega
      · have := (h.above_lt h4).1
        omega
    · obtain ⟨h1, h2, h3⟩ := hk k hm
      exact h.down_nodup f k h1 (by omega)
    · obtain ⟨h1, h2, h3⟩ := hk a ha
      obtain ⟨h4, h5, h6⟩ := hk b hb
      exact h.down_apart h1 h4 (by omega) (by omega) (by omega) hz1 hz2
theorem Fo.root (h : Fo l) : ∀ (n x : Nat), dep l x = n → fu l x ≠ -2 → ∃ r ∈ rootsN l, x = r ∨ r ∈ above l x := by
  intro n
  induction n using Nat.strongRecOn with
  | _ n ih =>
    intro x hd hx
    rcases neg_or (fu l x) with h0 | h0
    · have := h.low x
      exact ⟨x, mem_rootsN.2 ⟨fu_in hx, by omega⟩, .inl rfl⟩
    · obtain ⟨j, hj⟩ : ∃ j : Nat, fu l x = j := ⟨(fu l x).toNat, by omega⟩
      have h2 := h.dep_succ hj
      obtain ⟨r, h3, h4⟩ := ih (dep l j) (by omega) j rfl (h.up x j hj).2
      refine ⟨r, h3, .inr ?_⟩
      rw [h.above_cons hj]
      rcases h4 with rfl | h4
      · exact List.mem_cons_self ..
      · exact List.mem_cons_of_mem _ h4
theorem Fo.mem_order (h : Fo l) (x : Nat) : x ∈ orderN l ↔ x < l.length ∧ fu l x ≠ -2 := by
  rw [orderN, List.mem_flatMap]
  constructor
  · rintro ⟨r, hr, hx⟩
    obtain ⟨h1, h2⟩ := mem_rootsN.1 hr
    rcases (h.mem_down _ r h1 (by omega) x).1 hx with rfl | h3
    · exact ⟨h1, by omega⟩
    · rcases neg_or (fu l x) with h0 | h0
      · rw [above_none h0] at h3
        cases h3
      · exact ⟨fu_in (by omega), by omega⟩
  · rintro ⟨_, h2⟩
    obtain ⟨r, h3, h4⟩ := h.root _ x rfl h2
    exact ⟨r, h3, (h.mem_down _ r (mem_rootsN.1 h3).1 (by omega) x).2 h4⟩
theorem Fo.order_nodup (h : Fo l) : (orderN l).Nodup := by
  rw [orderN]
  refine flat_nodup (range_pick_nodup _ _) (fun r hr => ?_) fun a ha b hb z hz1 hz2 => ?_
  · exact h.down_nodup _ r (mem_rootsN.1 hr).1 (by omega)
  · obtain ⟨h1, h2⟩ := mem_rootsN.1 ha
    obtain ⟨h3, h4⟩ := mem_rootsN.1 hb
    exact h.down_apart h1 h3 (by omega) (by omega) (by rw [dep_zero (by omega), dep_zero (by omega)]) hz1 hz2
theorem Fo.order_length (h : Fo l) : (orderN l).length = ((List.range l.length).filter fun k => !decide (fu l k = -2)).length := by
  refine same_length h.order_nodup (range_pick_nodup _ _) fun x => ?_
  rw [h.mem_order, List.mem_filter, List.mem_range, Bool.not_eq_true', decide_eq_false_iff_not]

/-- each behind what it came of -/
def Led (l : List Int) (pre o : List Nat) : Prop := ∀ n x, o[n]? = some x → ∀ j : Nat, fu l x = j → j ∈ pre ∨ j ∈ o.take n
theorem Led.nil (pre : List Nat) : Led l pre [] := fun n x h => by simp at h
theorem Led.append {pre a b : List Nat} (ha : Led l pre a) (hb : Led l pre b) : Led l pre (a ++ b) := fun n x hx j hj => by
  rcases Nat.lt_or_ge n a.length with hn | hn
  · rw [List.getElem?_append_left hn] at hx
    rw [List.take_append_of_le_length (by omega)]
    exact ha n x hx j hj
  · rw [List.getElem?_append_right hn] at hx
    rcases hb _ x hx j hj with h | h
    · exact .inl h
    · refine .inr ?_
      rw [List.take_append]
      exact List.mem_append_right _ h
theorem Led.cons {pre o : List Nat} {i : Nat} (hi : ∀ j : Nat, fu l i = j → j ∈ pre) (h : Led l (i :: pre) o) : Led l pre (i :: o) := fun n x hx j hj => by
  cases n with
  | zero =>
    simp at hx
    subst hx
    exact .inl (hi j hj)
  | succ n =>
    rw [List.getElem?_cons_succ] at hx
    rw [List.take_succ_cons]
    rcases h n x hx j hj with h | h
    · rcases List.mem_cons.1 h with rfl | h
      · exact .inr (List.mem_cons_self ..)
      · exact .inl h
    · exact .inr (List.mem_cons_of_mem _ h)
theorem Led.flat {pre : List Nat} {g : Nat → List Nat} : ∀ (a : List Nat), (∀ x ∈ a, Led l pre (g x)) → Led l pre (a.flatMap g)
  | [], _ => Led.nil pre
  | x :: a, h => by
    rw [List.flatMap_cons]
    exact Led.append (h x (List.mem_cons_self ..)) (Led.flat a fun y hy => h y (List.mem_cons_of_mem _ hy))
theorem down_led : ∀ (f i : Nat) (pre : List Nat), (∀ j : Nat, fu l i = j → j ∈ pre) → Led l pre (down l f i)
  | 0, _, pre, _ => Led.nil pre
  | f + 1, i, pre, hi => by
    rw [down]
    refine Led.cons hi (Led.flat _ fun k hk => down_led f k _ fun j hj => ?_)
    have := (mem_kidsN.1 hk).2
    have : j = i := by omega
    exact this ▸ List.mem_cons_self ..
theorem order_led : Led l [] (orderN l) := Led.flat _ fun r hr => down_led _ r _ fun j hj => by
  have := (mem_rootsN.1 hr).2
  omega
/-- the n-th of the order: none before it, and what it came of is -/
theorem Fo.order_at (h : Fo l) {n x : Nat} (hx : (orderN l)[n]? = some x) : x < l.length ∧ fu l x ≠ -2 ∧ x ∉ (orderN l).take n ∧ ∀ j : Nat, fu l x = j → j ∈ (orderN l).take n := by
  have h1 := (h.mem_order x).1 (List.mem_of_getElem? hx)
  refine ⟨h1.1, h1.2, fun hm => ?_, fun j hj => (order_led n x hx j hj).resolve_left (by simp)⟩
  obtain ⟨k, hk⟩ := List.getElem?_of_mem hm
  have hkn : k < n := by
    have := (List.getElem?_eq_some_iff.1 hk).1
    rw [List.length_take] at this
    omega
  rw [List.getElem?_take_of_lt hkn] at hk
  have := (List.getElem?_inj (List.getElem?_eq_some_iff.1 hk).1 h.order_nodup).1 (hk.trans hx.symm)
  omega
theorem orderN_few (h : Fo l) : (orderN l).length ≤ l.length := by
  have := sub_length (orderN l) (List.range l.length) h.order_nodup fun x hx => List.mem_range.2 ((h.mem_order x).1 hx).1
  rwa [List.length_range] at this
end
end Go.Proofs.Ythooeahpfegjbaa
