/-
  Depths beside kids and what is below (plain). Condition: the forest may be.
-/
import Derived.Test.YtigljoafmefbnaaEw
namespace Go.Proofs.Ytigljoafmefbnaa

theorem deep_there {l : List Int} (h : Fo l) {i : Nat} (hi : fu l i ≠ -2) : fdepth l i = dep l i := by
  rw [fdepth, if_pos ((there_at h i).2 hi), Int.toNat_natCast]
theorem deep_none {l : List Int} (h : Fo l) {i : Nat} (hi : fu l i = -2) : fdepth l i = -1 := by
  rw [fdepth, if_neg fun q => (there_at h i).1 q hi]
theorem deep_root {l : List Int} (h : Fo l) {i : Nat} (hi : fu l i = -1) : fdepth l i = 0 := by
  rw [deep_there h (by rw [hi]; decide), dep_zero (by rw [hi]; decide)]; rfl
theorem deep_kid {l : List Int} (h : Fo l) {i j : Nat} (hi : fu l i = j) : ∃ c : Nat, fdepth l j = c ∧ fdepth l i = ((c + 1 : Nat) : Int) ∧ c < 96 := by
  have hj := h.up i j hi
  refine ⟨dep l j, deep_there h hj.2, ?_, ?_⟩
  · rw [deep_there h (by rw [hi]; omega), h.dep_succ hi]
  · have := h.dep_lt hj.1
    have := h.few
    omega
theorem deep_range {l : List Int} (h : Fo l) (i : Nat) : -1 ≤ fdepth l i ∧ fdepth l i < 96 := by
  by_cases q : fu l i = -2
  · rw [deep_none h q]; omega
  · rw [deep_there h q]
    have := h.dep_lt (fu_in q)
    have := h.few
    omega
/-- one deeper -/
def deeper (l : List Int) (i k : Nat) : Bool := decide (fdepth l k = fdepth l i + 1)
/-- those that came straight of it are those below it that are one deeper -/
structure Deeps (l : List Int) (i : Nat) (bs : List Nat) : Prop where
  below : fbelow l i = toInts bs
  kids : fkids l i = toInts (bs.filter (deeper l i))
  deep : ∀ k ∈ bs, fdepth l i < fdepth l k
  few : bs.length ≤ 96
theorem deeps {l : List Int} (h : Fo l) (i : Nat) : ∃ bs, Deeps l i bs := by
  by_cases ht : there l i = true
  · have hi := (there_at h i).1 ht
    have hb : ∀ k ∈ belowN l i, fdepth l k = dep l k ∧ dep l i < dep l k := fun k hk => by
      obtain ⟨_, h2, h3⟩ := h.below_dep hk
      exact ⟨deep_there h h2, h3⟩
    refine ⟨belowN l i, by rw [fbelow, if_pos ht, Int.toNat_natCast], ?_, fun k hk => ?_, ?_⟩
    · rw [fkids, if_pos ht, Int.toNat_natCast, h.kids_below]
      congr 1
      refine List.filter_congr fun k hk => ?_
      rw [deeper, (hb k hk).1, deep_there h hi, Bool.eq_iff_iff, decide_eq_true_eq, decide_eq_true_eq]
      omega
    · rw [(hb k hk).1, deep_there h hi]
      have := (hb k hk).2
      omega
    · have := picked_few l.length fun k => (above l k).contains i
      have := h.few
      show (List.filter _ _).length ≤ 96
      omega
  · refine ⟨[], by rw [fbelow, if_neg ht]; rfl, by rw [fkids, if_neg ht]; rfl, fun k hk => (by cases hk), Nat.zero_le _⟩
/-- how many of the first t are kids -/
def kidsOf (l : List Int) (i : Nat) (bs : List Nat) (t : Nat) : Nat := ((bs.take t).filter (deeper l i)).length
theorem kidsOf_zero (l : List Int) (i : Nat) (bs : List Nat) : kidsOf l i bs 0 = 0 := rfl
theorem kidsOf_le (l : List Int) (i : Nat) (bs : List Nat) (t : Nat) : kidsOf l i bs t ≤ t := Nat.le_trans (List.length_filter_le _ _) (List.length_take_le _ _)
theorem kidsOf_all {l : List Int} {i : Nat} {bs : List Nat} (h : Deeps l i bs) : kidsOf l i bs bs.length = (fkids l i).length := by
  rw [kidsOf, List.take_length, h.kids, toInts_length]
theorem kidsOf_step {l : List Int} {i : Nat} {bs : List Nat} (h : Deeps l i bs) {t : Nat} (ht : t < (fbelow l i).length) :
    ∃ x : Nat, (fbelow l i)[t]? = some (x : Int) ∧ fdepth l i < fdepth l x ∧ (fdepth l x = fdepth l i + 1 → kidsOf l i bs (t + 1) = kidsOf l i bs t + 1 ∧ (fkids l i)[kidsOf l i bs t]? = some (x : Int)) ∧ (fdepth l x ≠ fdepth l i + 1 → kidsOf l i bs (t + 1) = kidsOf l i bs t) := by
  rw [h.below, toInts_length] at ht
  have hx : bs[t]? = some (bs[t]'ht) := List.getElem?_eq_getElem ht
  have hs : bs.take (t + 1) = bs.take t ++ [bs[t]'ht] := by rw [List.take_add_one, hx]; rfl
  refine ⟨bs[t]'ht, by rw [h.below, toInts, List.getElem?_map, hx]; rfl, h.deep _ (List.getElem_mem ht), fun e => ⟨?_, ?_⟩, fun e => ?_⟩
  · rw [kidsOf, hs, List.filter_append, List.length_append]
    simp [e, kidsOf, deeper]
  · have hd : bs = bs.take t ++ (bs[t]'ht :: bs.drop (t + 1)) := by rw [List.getElem_cons_drop, List.take_append_drop]
    have hp : deeper l i (bs[t]'ht) = true := decide_eq_true e
    have hf : (bs.filter (deeper l i)) = (bs.take t).filter (deeper l i) ++ (bs[t]'ht :: (bs.drop (t + 1)).filter (deeper l i)) := by
      conv => lhs; rw [hd]
      rw [List.filter_append, List.filter_cons, if_pos hp]
    rw [h.kids, hf, toInts, List.getElem?_map, kidsOf, List.getElem?_append_right (Nat.le_refl _), Nat.sub_self]
    rfl
  · rw [kidsOf, hs, List.filter_append, List.length_append]
    simp [e, kidsOf, deeper]
end Go.Proofs.Ytigljoafmefbnaa
