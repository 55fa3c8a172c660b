/-
  What a forest pruned or dropped from is, as the calls tell it (plain). Condition: the forest may be.
-/
import Derived.Test.YtigljoafmefbnaaEw
namespace Go.Proofs.Ytigljoafmefbnaa

structure Cutting (l p d : List Int) (a : Nat) : Prop where
  few : l.length ≤ 96
  lt : a < l.length
  prune : fprune l a = some p
  drop : fdrop l a = some d
  plen : p.length = l.length
  dlen : d.length = l.length
  pgood : fgood p = true
  dgood : fgood d = true
  pbelow : fbelow p a = []
  pin : ∀ k, k ∈ belowN l a → fu p k = -2
  pout : ∀ k, k < l.length → k ∉ belowN l a → fu p k = fu l k
  dself : fu d a = -2
  dkid : ∀ k, fu l k = a → fu d k = fu l a
  delse : ∀ k, k ≠ a → fu l k ≠ a → fu d k = fu l k
  self : ∀ k, fu l k = a → k ≠ a
  bfew : ∀ t, t < (fbelow l a).length → ∃ x : Nat, (fbelow l a)[t]? = some (x : Int) ∧ x < l.length ∧ (belowN l a).take (t + 1) = (belowN l a).take t ++ [x]
  blen : (fbelow l a).length = (belowN l a).length
  bmost : (fbelow l a).length ≤ 96
theorem cutting {l : List Int} {i : Int} (h : there l i = true) : ∃ (a : Nat) (p d : List Int), i = a ∧ Cutting l p d a := by
  have h0 := h
  obtain ⟨hF, a, rfl, ha, ha2⟩ := there_iff.1 h
  have hb : fbelow l a = toInts (belowN l a) := by rw [fbelow, if_pos h0, Int.toNat_natCast]
  have hm : ∀ k, k ∈ belowN l a ↔ k < l.length ∧ a ∈ above l k := fun k => by
    rw [belowN, List.mem_filter, List.mem_range, List.contains_iff_mem]
  have hself : ∀ k, fu l k = (a : Int) → k ≠ a := fun k e q => by subst q; exact hF.not_self k e
  have hd := fun k => hF.fu_drop ha k
  refine ⟨a, pruneL l a, dropL l a, rfl, hF.few, ha, by rw [fprune, if_pos h0, Int.toNat_natCast], by rw [fdrop, if_pos h0, Int.toNat_natCast], prune_length, drop_length, fo_iff.2 hF.prune, fo_iff.2 (hF.drop ha2), ?_,
    fun k hk => ?_, fun k hk hk2 => ?_, ?_, fun k hk => ?_, fun k h1 h2 => ?_, hself, fun t ht => ?_, by rw [hb, toInts_length], Nat.le_trans (fbelow_few l a) hF.few⟩
  · rw [fbelow]; split
    · rw [Int.toNat_natCast, hF.prune_below]; rfl
    · rfl
  · rw [fu_prune, if_pos ((hm k).1 hk).2]
  · rw [fu_prune, if_neg fun q => hk2 ((hm k).2 ⟨hk, q⟩)]
  · rw [hd, if_pos rfl]
  · rw [hd, if_neg (hself k hk), if_pos hk]
  · rw [hd, if_neg h1, if_neg h2]
  · rw [hb, toInts_length] at ht
    have hx : (belowN l a)[t]? = some ((belowN l a)[t]'ht) := List.getElem?_eq_getElem ht
    refine ⟨(belowN l a)[t]'ht, by rw [hb, toInts, List.getElem?_map, hx]; rfl, ((hm _).1 (List.mem_of_getElem? hx)).1, ?_⟩
    rw [List.take_add_one, hx]; rfl
end Go.Proofs.Ytigljoafmefbnaa
