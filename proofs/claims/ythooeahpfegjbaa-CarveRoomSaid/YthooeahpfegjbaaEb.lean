/-
  Forests as plain data: what each call of the chapter answers, and what follows of it. No condition.
-/
import Derived.Test.YthooeahpfegjbaaEa
namespace Go.Proofs.Ythooeahpfegjbaa

/-! ### what the calls answer -/
def there (l : List Int) (i : Int) : Bool := fgood l && (decide (0 ≤ i) && (decide (i < l.length) && !decide (fu l i.toNat = -2)))
def kidsN (l : List Int) (i : Nat) : List Nat := (List.range l.length).filter fun k => decide (fu l k = i)
def belowN (l : List Int) (i : Nat) : List Nat := (List.range l.length).filter fun k => (above l k).contains i
def toInts (l : List Nat) : List Int := l.map fun k : Nat => (k : Int)
def fdepth (l : List Int) (i : Int) : Int := if there l i = true then (dep l i.toNat : Int) else -1
def fkids (l : List Int) (i : Int) : List Int := if there l i = true then toInts (kidsN l i.toNat) else []
def fbelow (l : List Int) (i : Int) : List Int := if there l i = true then toInts (belowN l i.toNat) else []
def down (l : List Int) : Nat → Nat → List Nat
  | 0, _ => []
  | f + 1, i => i :: (kidsN l i).flatMap (down l f)
def rootsN (l : List Int) : List Nat := (List.range l.length).filter fun k => decide (fu l k = -1)
def orderN (l : List Int) : List Nat := (rootsN l).flatMap (down l l.length)
def forder (l : List Int) : List Int := if fgood l = true then toInts (orderN l) else []
def fadd (l : List Int) (i k : Int) : Option (List Int) := if fgood l = true ∧ 0 ≤ i ∧ i < l.length ∧ fu l i.toNat = -2 ∧ (k = -1 ∨ there l k = true) then some (l.set i.toNat k) else none
def dropL (l : List Int) (i : Nat) : List Int := (l.map fun x => if x = (i : Int) then fu l i else x).set i (-2)
def fdrop (l : List Int) (i : Int) : Option (List Int) := if there l i = true then some (dropL l i.toNat) else none
def moveL (l : List Int) (i k : Nat) : List Int := ((l.map fun x => if x = (i : Int) then (k : Int) else x).set k (fu l i)).set i (-2)
def fmove (l : List Int) (i k : Int) : Option (List Int) := if there l i = true ∧ 0 ≤ k ∧ k < l.length ∧ fu l k.toNat = -2 then some (moveL l i.toNat k.toNat) else none
def pruneL (l : List Int) (i : Nat) : List Int := (List.range l.length).map fun k => if (above l k).contains i = true then -2 else fu l k
def fprune (l : List Int) (i : Int) : Option (List Int) := if there l i = true then some (pruneL l i.toNat) else none

theorem there_iff {l : List Int} {i : Int} : there l i = true ↔ Fo l ∧ ∃ k : Nat, i = k ∧ k < l.length ∧ fu l k ≠ -2 := by
  simp only [there, Bool.and_eq_true, decide_eq_true_eq, Bool.not_eq_true', decide_eq_false_iff_not, fo_iff]
  constructor
  · rintro ⟨h, h0, h1, h2⟩
    exact ⟨h, i.toNat, by omega, by omega, h2⟩
  · rintro ⟨h, k, rfl, h1, h2⟩
    exact ⟨h, by omega, by omega, by simpa using h2⟩
theorem there_at {l : List Int} (h : Fo l) (k : Nat) : there l k = true ↔ fu l k ≠ -2 := by
  rw [there_iff]
  constructor
  · rintro ⟨_, j, hj, _, h2⟩
    obtain rfl : k = j := by omega
    exact h2
  · exact fun h2 => ⟨h, k, rfl, fu_in h2, h2⟩
theorem there_not {l : List Int} (h : Fo l) {i : Int} (hi : there l i = false) {k : Nat} (e : i = k) : fu l k = -2 := by
  subst e
  rcases Decidable.em (fu l k = -2) with h1 | h1
  · exact h1
  · rw [(there_at h k).2 h1] at hi
    cases hi

/-! ### places after a change -/
theorem fu_set {l : List Int} {i : Nat} (hi : i < l.length) (x : Int) (k : Nat) : fu (l.set i x) k = if k = i then x else fu l k := by
  by_cases e : k = i
  · subst e
    rw [if_pos rfl]
    exact fu_at (by rw [List.getElem?_set_self hi])
  · rw [if_neg e, fu, fu, List.getD_eq_getElem?_getD, List.getD_eq_getElem?_getD, List.getElem?_set_ne (fun q => e q.symm)]
theorem fu_map (l : List Int) (f : Int → Int) (hf : f (-2) = -2) (k : Nat) : fu (l.map f) k = f (fu l k) := by
  rw [fu, fu, List.getD_eq_getElem?_getD, List.getD_eq_getElem?_getD, List.getElem?_map]
  cases l[k]? with
  | none => exact hf.symm
  | some x => rfl
theorem fu_ext {l m : List Int} (hl : l.length = m.length) (h : ∀ k, k < l.length → fu l k = fu m k) : l = m := by
  refine List.ext_getElem? fun k => ?_
  rcases Nat.lt_or_ge k l.length with hk | hk
  · rw [fu_get hk, fu_get (by omega), h k hk]
  · rw [List.getElem?_eq_none hk, List.getElem?_eq_none (by omega)]
theorem ends_of_rank {m : List Int} (r : Nat → Nat) (hr : ∀ k j : Nat, fu m k = j → r j < r k) : ∀ (f k : Nat), r k < f → ends m f k = true
  | 0, _, h => by omega
  | f + 1, k, h => by
    rw [ends_succ (by omega), Int.toNat_natCast]
    rcases neg_or (fu m k) with h0 | h0
    · exact ends_neg h0 _
    · have := hr k (fu m k).toNat (by omega)
      have := ends_of_rank r hr f (fu m k).toNat (by omega)
      rwa [show (((fu m k).toNat : Nat) : Int) = fu m k by omega] at this
theorem fo_of_rank {m : List Int} (few : m.length ≤ 96) (low : ∀ k, -2 ≤ fu m k) (up : ∀ (k j : Nat), fu m k = j → j < m.length ∧ fu m j ≠ -2) (r : Nat → Nat)
    (hr : ∀ k j : Nat, fu m k = j → r j < r k) (hb : ∀ k, k < m.length → r k < m.length) : Fo m :=
  ⟨few, low, up, fun k hk => ends_of_rank r hr _ k (hb k hk)⟩
theorem Fo.not_self {l : List Int} (h : Fo l) (k : Nat) : fu l k ≠ (k : Int) := fun e => by
  have := h.dep_succ e
  omega
theorem Fo.self_above {l : List Int} (h : Fo l) (k : Nat) : k ∉ above l k := fun e => by
  have := (h.above_lt e).1
  omega
/-- who is straight above -/
theorem Fo.kid_iff {l : List Int} (h : Fo l) (i k : Nat) : fu l k = i ↔ i ∈ above l k ∧ dep l k = dep l i + 1 := by
  constructor
  · intro e
    exact ⟨by rw [h.above_cons e]; exact List.mem_cons_self .., h.dep_succ e⟩
  · rintro ⟨h1, h2⟩
    rcases neg_or (fu l k) with h0 | h0
    · rw [above_none h0] at h1
      cases h1
    · obtain ⟨j, hj⟩ : ∃ j : Nat, fu l k = j := ⟨(fu l k).toNat, by omega⟩
      have hd := h.dep_succ hj
      have hm : j ∈ above l k := by rw [h.above_cons hj]; exact List.mem_cons_self ..
      rw [hj, h.above_one _ k rfl i h1 j hm (by omega)]
theorem Fo.kids_below {l : List Int} (h : Fo l) (i : Nat) : kidsN l i = (belowN l i).filter fun k => decide (dep l k = dep l i + 1) := by
  rw [kidsN, belowN, List.filter_filter]
  refine List.filter_congr fun k _ => ?_
  rw [Bool.eq_iff_iff, decide_eq_true_eq, Bool.and_eq_true, decide_eq_true_eq, List.contains_iff_mem, h.kid_iff]
  exact And.comm
theorem Fo.below_dep {l : List Int} (h : Fo l) {i k : Nat} (hk : k ∈ belowN l i) : k < l.length ∧ fu l k ≠ -2 ∧ dep l i < dep l k := by
  rw [belowN, List.mem_filter, List.mem_range, List.contains_iff_mem] at hk
  refine ⟨hk.1, fun e => ?_, (h.above_lt hk.2).1⟩
  rw [above_none (by omega)] at hk
  cases hk.2

/-! ### added -/
section
variable {l : List Int} {i : Nat} {k : Int}
theorem Fo.dep_room (h : Fo l) {j : Nat} (hj : fu l j ≠ -2) (hi : i < l.length) (hi2 : fu l i = -2) : dep l j + 2 ≤ l.length := by
  have hn : (i :: j :: above l j).Nodup := by
    refine List.nodup_cons.2 ⟨fun hm => ?_, List.nodup_cons.2 ⟨h.self_above j, h.above_nodup _ j rfl⟩⟩
    rcases List.mem_cons.1 hm with e | hm
    · exact hj (e ▸ hi2)
    · exact (h.above_lt hm).2.2 hi2
  have := sub_length _ (List.range l.length) hn fun x hx => by
    rw [List.mem_range]
    rcases List.mem_cons.1 hx with rfl | hx
    · exact hi
    · rcases List.mem_cons.1 hx with rfl | hx
      · exact fu_in hj
      · exact (h.above_lt hx).2.1
  rw [List.length_range] at this
  exact this
theorem Fo.add (h : Fo l) (hi : i < l.length) (hi2 : fu l i = -2) (hk : k = -1 ∨ there l k = true) : Fo (l.set i k) := by
  have hk' : k = -1 ∨ ∃ j : Nat, k = j ∧ j < l.length ∧ fu l j ≠ -2 := hk.imp id fun e => (there_iff.1 e).2
  have hne : ∀ a j : Nat, fu l a = j → j ≠ i := fun a j e q => (h.up a j e).2 (q ▸ hi2)
  refine fo_of_rank (by rw [List.length_set]; exact h.few) (fun a => ?_) (fun a j hj => ?_) (fun a => if a = i then (if k = -1 then 0 else dep l k.toNat + 1) else dep l a) (fun a j hj => ?_) (fun a ha => ?_)
  · rw [fu_set hi]
    split
    · rcases hk' with rfl | ⟨j, rfl, _⟩ <;> omega
    · exact h.low a
  · rw [List.length_set]
    rw [fu_set hi] at hj ⊢
    have key : j < l.length ∧ fu l j ≠ -2 := by
      split at hj
      · rcases hk' with rfl | ⟨j', rfl, h1, h2⟩
        · omega
        · obtain rfl : j = j' := by omega
          exact ⟨h1, h2⟩
      · exact h.up a j hj
    refine ⟨key.1, ?_⟩
    rw [if_neg (fun e : j = i => key.2 (e ▸ hi2))]
    exact key.2
  · rw [fu_set hi] at hj
    by_cases e : a = i
    · rw [if_pos e] at hj
      rcases hk' with rfl | ⟨j', rfl, h1, h2⟩
      · omega
      · obtain rfl : j = j' := by omega
        have hji : j ≠ i := fun e => h2 (e ▸ hi2)
        simp only [if_pos e, if_neg hji, if_neg (show ¬ ((j : Int) = -1) by omega), Int.toNat_natCast]
        omega
    · rw [if_neg e] at hj
      simp only [if_neg e, if_neg (hne a j hj)]
      have := h.dep_succ hj
      omega
  · rw [List.length_set] at ha ⊢
    by_cases e : a = i
    · simp only [if_pos e]
      rcases hk' with rfl | ⟨j', rfl, h1, h2⟩
      · rw [if_pos rfl]; omega
      · rw [if_neg (by omega), Int.toNat_natCast]
        have := h.dep_room h2 hi hi2
        omega
    · simp only [if_neg e]
      exact h.dep_lt ha
theorem Fo.add_drop (h : Fo l) (hi : i < l.length) (hi2 : fu l i = -2) : dropL (l.set i k) i = l := by
  have hs : i < (l.set i k).length := by rw [List.length_set]; exact hi
  have hi3 : i < ((l.set i k).map fun x => if x = (i : Int) then fu (l.set i k) i else x).length := by rw [List.length_map]; exact hs
  refine fu_ext (by simp [dropL]) fun a ha => ?_
  rw [dropL, fu_set hi3]
  by_cases e : a = i
  · subst e
    rw [if_pos rfl, hi2]
  · rw [if_neg e, fu_map _ _ (by rw [if_neg (by omega)]), fu_set hi, if_neg e, if_neg (fun q => (h.up a i q).2 hi2)]
end

/-! ### dropped -/
section
variable {l : List Int} {i : Nat}
theorem Fo.fu_drop (_ : Fo l) (hi : i < l.length) (k : Nat) : fu (dropL l i) k = if k = i then -2 else if fu l k = i then fu l i else fu l k := by
  rw [dropL, fu_set (by rw [List.length_map]; exact hi)]
  by_cases e : k = i
  · rw [if_pos e, if_pos e]
  · rw [if_neg e, if_neg e, fu_map _ _ (by rw [if_neg (by omega)])]
theorem drop_length : (dropL l i).length = l.length := by simp [dropL]
theorem Fo.drop (h : Fo l) (hi : fu l i ≠ -2) : Fo (dropL l i) := by
  have hil := fu_in hi
  have key : ∀ a j : Nat, fu (dropL l i) a = j → j ≠ i ∧ j < l.length ∧ fu l j ≠ -2 ∧ dep l j < dep l a := fun a j hj => by
    rw [h.fu_drop hil] at hj
    split at hj
    · omega
    · split at hj
      · rename_i e
        have h1 := h.dep_succ e
        have h2 := h.dep_succ hj
        have h3 := h.up i j hj
        exact ⟨fun q => h.not_self i (by rw [hj, q]), h3.1, h3.2, by omega⟩
      · rename_i e
        have h2 := h.dep_succ hj
        have h3 := h.up a j hj
        exact ⟨fun q => e (by rw [hj, q]), h3.1, h3.2, by omega⟩
  refine fo_of_rank (by rw [drop_length]; exact h.few) (fun a => ?_) (fun a j hj => ?_) (dep l) (fun a j hj => (key a j hj).2.2.2) (fun a ha => ?_)
  · rw [h.fu_drop hil]
    split
    · omega
    · split
      · exact h.low i
      · exact h.low a
  · obtain ⟨h1, h2, h3, _⟩ := key a j hj
    refine ⟨by rw [drop_length]; exact h2, ?_⟩
    rw [h.fu_drop hil, if_neg h1]
    split
    · exact hi
    · exact h3
  · rw [drop_length] at ha ⊢
    exact h.dep_lt ha
end

/-! ### moved -/
section
variable {l : List Int} {i k : Nat}
theorem move_length : (moveL l i k).length = l.length := by simp [moveL]
theorem fu_move (hi : i < l.length) (hk : k < l.length) (a : Nat) : fu (moveL l i k) a = if a = i then -2 else if a = k then fu l i else if fu l a = i then (k : Int) else fu l a := by
  rw [moveL, fu_set (by simpa using hi)]
  by_cases e : a = i
  · rw [if_pos e, if_pos e]
  · rw [if_neg e, if_neg e, fu_set (by simpa using hk)]
    by_cases e2 : a = k
    · rw [if_pos e2, if_pos e2]
    · rw [if_neg e2, if_neg e2, fu_map _ _ (by rw [if_neg (by omega)])]
theorem Fo.move (h : Fo l) (hi : fu l i ≠ -2) (hk : k < l.length) (hk2 : fu l k = -2) : Fo (moveL l i k) := by
  have hil := fu_in hi
  have hik : i ≠ k := fun e => hi (e ▸ hk2)
  have hno : ∀ a : Nat, fu l a ≠ (k : Int) := fun a e => (h.up a k e).2 hk2
  have key : ∀ a j : Nat, fu (moveL l i k) a = j → j ≠ i ∧ j < l.length ∧ (j = k ∨ fu l j ≠ -2) ∧ (if j = k then dep l i else dep l j) < (if a = k then dep l i else dep l a) := fun a j hj => by
    rw [fu_move hil hk] at hj
    split at hj
    · omega
    · split at hj
      · rename_i e
        have h2 := h.dep_succ hj
        have h3 := h.up i j hj
        have hjk : j ≠ k := fun q => h3.2 (q ▸ hk2)
        rw [if_neg hjk, if_pos e]
        exact ⟨fun q => h.not_self i (by rw [hj, q]), h3.1, .inr h3.2, by omega⟩
      · rename_i e
        rw [if_neg e]
        split at hj
        · rename_i e2
          obtain rfl : j = k := by omega
          have h2 := h.dep_succ e2
          rw [if_pos rfl]
          exact ⟨fun q => hik q.symm, hk, .inl rfl, by omega⟩
        · rename_i e2
          have h2 := h.dep_succ hj
          have h3 := h.up a j hj
          have hjk : j ≠ k := fun q => h3.2 (q ▸ hk2)
          rw [if_neg hjk]
          exact ⟨fun q => e2 (by rw [hj, q]), h3.1, .inr h3.2, by omega⟩
  refine fo_of_rank (by rw [move_length]; exact h.few) (fun a => ?_) (fun a j hj => ?_) (fun a => if a = k then dep l i else dep l a) (fun a j hj => (key a j hj).2.2.2) (fun a ha => ?_)
  · rw [fu_move hil hk]
    have := h.low i
    have := h.low a
    split
    · omega
    · split
      · omega
      · split <;> omega
  · obtain ⟨h1, h2, h3, _⟩ := key a j hj
    refine ⟨by rw [move_length]; exact h2, ?_⟩
    rw [fu_move hil hk, if_neg h1]
    by_cases e : j = k
    · rw [if_pos e]; exact hi
    · rw [if_neg e]
      split
      · omega
      · exact h3.resolve_left e
  · rw [move_length] at ha ⊢
    split
    · exact h.dep_lt hil
    · exact h.dep_lt ha
theorem Fo.move_back (h : Fo l) (hi : fu l i ≠ -2) (hk : k < l.length) (hk2 : fu l k = -2) : moveL (moveL l i k) k i = l := by
  have hil := fu_in hi
  have hik : i ≠ k := fun e => hi (e ▸ hk2)
  have hno : ∀ a : Nat, fu l a ≠ (k : Int) := fun a e => (h.up a k e).2 hk2
  have hm1 : i < (moveL l i k).length := by rw [move_length]; exact hil
  have hm2 : k < (moveL l i k).length := by rw [move_length]; exact hk
  refine fu_ext (by rw [move_length, move_length]) fun a _ => ?_
  rw [fu_move hm2 hm1]
  by_cases e1 : a = k
  · rw [if_pos e1, e1, hk2]
  · rw [if_neg e1]
    by_cases e2 : a = i
    · rw [if_pos e2, fu_move hil hk, if_neg (fun q => hik q.symm), if_pos rfl, e2]
    · rw [if_neg e2, fu_move hil hk, if_neg e2, if_neg e1]
      by_cases e3 : fu l a = i
      · rw [if_pos e3, if_pos rfl, e3]
      · rw [if_neg e3, if_neg (hno a)]
/-- a place's new name -/
def moved (i k a : Nat) : Nat := if a = i then k else a
theorem Fo.move_above (h : Fo l) (hi : fu l i ≠ -2) (hk : k < l.length) (hk2 : fu l k = -2) : ∀ (n a : Nat), dep l a = n → fu l a ≠ -2 → above (moveL l i k) (moved i k a) = (above l a).map (moved i k) := by
  have hil := fu_in hi
  have hik : i ≠ k := fun e => hi (e ▸ hk2)
  have hm := h.move hi hk hk2
  have hu : ∀ a, fu l a ≠ -2 → fu (moveL l i k) (moved i k a) = if fu l a = i then (k : Int) else fu l a := fun a ha => by
    rw [fu_move hil hk]
    by_cases e : a = i
    · rw [moved, if_pos e, if_neg (fun q => hik q.symm), if_pos rfl, e, if_neg (h.not_self i)]
    · have e2 : a ≠ k := fun q => ha (q ▸ hk2)
      rw [moved, if_neg e, if_neg e, if_neg e2]
  intro n
  induction n using Nat.strongRecOn with
  | _ n ih =>
    intro a hd ha
    rcases neg_or (fu l a) with h0 | h0
    · rw [above_none h0, above_none (by rw [hu a ha, if_neg (by omega)]; exact h0)]
      rfl
    · obtain ⟨j, hj⟩ : ∃ j : Nat, fu l a = j := ⟨(fu l a).toNat, by omega⟩
      have h2 := h.dep_succ hj
      have h3 := h.up a j hj
      have e : fu (moveL l i k) (moved i k a) = ((moved i k j : Nat) : Int) := by
        rw [hu a ha, hj, moved]
        by_cases e : j = i
        · rw [if_pos (by omega), if_pos e]
        · rw [if_neg (by omega), if_neg e]
      rw [hm.above_cons e, h.above_cons hj, List.map_cons, ih (dep l j) (by omega) j rfl h3.2]
theorem Fo.move_dep (h : Fo l) (hi : fu l i ≠ -2) (hk : k < l.length) (hk2 : fu l k = -2) : dep (moveL l i k) k = dep l i := by
  have := h.move_above hi hk hk2 _ i rfl hi
  rw [moved, if_pos rfl] at this
  rw [dep, this, List.length_map]
  rfl
theorem Fo.move_below (h : Fo l) (hi : fu l i ≠ -2) (hk : k < l.length) (hk2 : fu l k = -2) : belowN (moveL l i k) k = belowN l i := by
  have hil := fu_in hi
  have hik : i ≠ k := fun e => hi (e ▸ hk2)
  have hm := h.move hi hk hk2
  rw [belowN, belowN, move_length]
  refine List.filter_congr fun a _ => ?_
  rw [Bool.eq_iff_iff, List.contains_iff_mem, List.contains_iff_mem]
  by_cases e1 : a = i
  · subst e1
    rw [above_none (l := moveL l a k) (by rw [fu_move hil hk, if_pos rfl]; omega)]
    exact ⟨fun q => (by cases q), fun q => absurd q (h.self_above a)⟩
  · by_cases e2 : a = k
    · subst e2
      rw [above_none (l := l) (by omega)]
      exact ⟨fun q => absurd q (hm.self_above a), fun q => (by cases q)⟩
    · by_cases e3 : fu l a = -2
      · rw [above_none (l := l) (by omega), above_none (l := moveL l i k) (by rw [fu_move hil hk, if_neg e1, if_neg e2, if_neg (by omega)]; omega)]
        exact ⟨fun q => (by cases q), fun q => (by cases q)⟩
      · have := h.move_above hi hk hk2 _ a rfl e3
        rw [moved, if_neg e1] at this
        rw [this, List.mem_map]
        constructor
        · rintro ⟨x, hx, e⟩
          unfold moved at e
          split at e
          · rename_i q
            rwa [← q]
          · subst e
            exact absurd hk2 (h.above_lt hx).2.2
        · exact fun q => ⟨i, q, by rw [moved, if_pos rfl]⟩
end

/-! ### pruned -/
section
variable {l : List Int} {i : Nat}
theorem prune_length : (pruneL l i).length = l.length := by simp [pruneL]
theorem fu_prune (k : Nat) : fu (pruneL l i) k = if i ∈ above l k then -2 else fu l k := by
  rcases Nat.lt_or_ge k l.length with hk | hk
  · refine (fu_at (z := if (above l k).contains i = true then -2 else fu l k) ?_).trans ?_
    · rw [pruneL, List.getElem?_map, List.getElem?_range hk]
      rfl
    · simp only [List.contains_iff_mem]
  · have e : fu l k = -2 := fu_out hk
    rw [fu_out (by rw [prune_length]; exact hk), e]
    split <;> rfl
theorem Fo.prune (h : Fo l) : Fo (pruneL l i) := by
  have key : ∀ a j : Nat, fu (pruneL l i) a = j → fu l a = j ∧ i ∉ above l j := fun a j hj => by
    rw [fu_prune] at hj
    split at hj
    · omega
    · rename_i e
      refine ⟨hj, fun q => e ?_⟩
      rw [h.above_cons hj]
      exact List.mem_cons_of_mem _ q
  refine fo_of_rank (by rw [prune_length]; exact h.few) (fun a => ?_) (fun a j hj => ?_) (dep l) (fun a j hj => ?_) (fun a ha => ?_)
  · rw [fu_prune]
    split
    · omega
    · exact h.low a
  · obtain ⟨h1, h2⟩ := key a j hj
    have h3 := h.up a j h1
    rw [prune_length, fu_prune, if_neg h2]
    exact h3
  · have := h.dep_succ (key a j hj).1
    omega
  · rw [prune_length] at ha ⊢
    exact h.dep_lt ha
theorem Fo.prune_above (h : Fo l) : ∀ (n k : Nat), dep l k = n → i ∉ above l k → above (pruneL l i) k = above l k := by
  have hp := h.prune (i := i)
  intro n
  induction n using Nat.strongRecOn with
  | _ n ih =>
    intro k hd hk
    have e : fu (pruneL l i) k = fu l k := by rw [fu_prune, if_neg hk]
    rcases neg_or (fu l k) with h0 | h0
    · rw [above_none h0, above_none (by rw [e]; exact h0)]
    · obtain ⟨j, hj⟩ : ∃ j : Nat, fu l k = j := ⟨(fu l k).toNat, by omega⟩
      have h2 := h.dep_succ hj
      rw [hp.above_cons (e.trans hj), h.above_cons hj, ih (dep l j) (by omega) j rfl fun q => hk (by rw [h.above_cons hj]; exact List.mem_cons_of_mem _ q)]
theorem Fo.prune_below (h : Fo l) : belowN (pruneL l i) i = [] := by
  rw [belowN, List.filter_eq_nil_iff]
  intro k _ hc
  rw [List.contains_iff_mem] at hc
  by_cases e : i ∈ above l k
  · rw [above_none (by rw [fu_prune, if_pos e]; omega)] at hc
    cases hc
  · rw [h.prune_above _ k rfl e] at hc
    exact e hc
end
end Go.Proofs.Ythooeahpfegjbaa
