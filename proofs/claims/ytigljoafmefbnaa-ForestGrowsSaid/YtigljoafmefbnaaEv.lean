/-
  What is done to a forest that may be, as the calls tell it (plain). Condition: the forest may be.
-/
import Derived.Test.YtigljoafmefbnaaEw
namespace Go.Proofs.Ytigljoafmefbnaa

theorem there_low {l : List Int} {k : Int} (h : k = -1 ∨ there l k = true) : k ≠ -2 := by
  rcases h with rfl | h
  · decide
  · obtain ⟨_, a, rfl, _⟩ := there_iff.1 h
    omega
structure Added (l m : List Int) (i : Int) : Prop where
  len : m.length = l.length
  good : fgood m = true
  drop : fdrop m i = some l
  deep : ∃ d : Nat, fdepth m i = d
theorem fadd_is {l m : List Int} {i k : Int} (h : fadd l i k = some m) : Added l m i := by
  rw [fadd] at h
  split at h
  · next q =>
    obtain ⟨hg, h0, h1, h2, h3⟩ := q
    have hF := fo_iff.1 hg
    obtain ⟨a, rfl⟩ : ∃ a : Nat, i = a := ⟨i.toNat, by omega⟩
    rw [Int.toNat_natCast] at h h2
    obtain rfl := Option.some.inj h
    have ha : a < l.length := by omega
    have hM := hF.add ha h2 h3
    have ht : there (l.set a k) a = true := (there_at hM a).2 (by rw [fu_set ha, if_pos rfl]; exact there_low h3)
    refine ⟨List.length_set .., fo_iff.2 hM, ?_, dep (l.set a k) a, ?_⟩
    · rw [fdrop, if_pos ht, Int.toNat_natCast, hF.add_drop ha h2]
    · rw [fdepth, if_pos ht, Int.toNat_natCast]
  · cases h
structure Moved (l m : List Int) (i k : Int) : Prop where
  len : m.length = l.length
  good : fgood m = true
  back : fmove m k i = some l
  deep : fdepth m k = fdepth l i
  below : (fbelow m k).length = (fbelow l i).length
theorem fmove_is {l m : List Int} {i k : Int} (h : fmove l i k = some m) : Moved l m i k := by
  rw [fmove] at h
  split at h
  · next q =>
    obtain ⟨ht, h0, h1, h2⟩ := q
    obtain ⟨hF, a, rfl, ha, ha2⟩ := there_iff.1 ht
    obtain ⟨b, rfl⟩ : ∃ b : Nat, k = b := ⟨k.toNat, by omega⟩
    rw [Int.toNat_natCast] at h2
    rw [Int.toNat_natCast, Int.toNat_natCast] at h
    obtain rfl := Option.some.inj h
    have hb : b < l.length := by omega
    have hM := hF.move ha2 hb h2
    have hab : b ≠ a := fun e => ha2 (e ▸ h2)
    have htm : there (moveL l a b) b = true := (there_at hM b).2 (by rw [fu_move ha hb, if_neg hab, if_pos rfl]; exact ha2)
    refine ⟨move_length, fo_iff.2 hM, ?_, ?_, ?_⟩
    · rw [fmove, if_pos ⟨htm, by omega, by rw [move_length]; omega, by rw [Int.toNat_natCast, fu_move ha hb, if_pos rfl]⟩, Int.toNat_natCast, Int.toNat_natCast, hF.move_back ha2 hb h2]
    · rw [fdepth, fdepth, if_pos htm, if_pos ht, Int.toNat_natCast, Int.toNat_natCast, hF.move_dep ha2 hb h2]
    · rw [fbelow, fbelow, if_pos htm, if_pos ht, Int.toNat_natCast, Int.toNat_natCast, toInts_length, toInts_length, hF.move_below ha2 hb h2]
  · cases h
/-- how many of the first places hold something -/
def held (l : List Int) (i : Nat) : Nat := ((List.range i).filter fun k => !decide (fu l k = -2)).length
theorem held_zero (l : List Int) : held l 0 = 0 := rfl
theorem held_succ (l : List Int) (i : Nat) : held l (i + 1) = held l i + if fu l i = -2 then 0 else 1 := by
  unfold held
  rw [List.range_succ, List.filter_append, List.length_append]
  congr 1
  by_cases h : fu l i = -2
  · simp [h]
  · simp [h]
theorem held_le (l : List Int) (i : Nat) : held l i ≤ i := by
  have := List.length_filter_le (fun k => !decide (fu l k = -2)) (List.range i)
  rwa [List.length_range] at this
theorem forder_held {l : List Int} (h : fgood l = true) : (forder l).length = held l l.length := by
  rw [forder, if_pos h, toInts_length]
  exact (fo_iff.1 h).order_length
/-- the n-th of the order -/
theorem forder_at {l : List Int} (h : fgood l = true) {n : Nat} (hn : n < (forder l).length) : ∃ x : Nat, (forder l)[n]? = some (x : Int) ∧ x < l.length ∧ x ∉ (orderN l).take n ∧ fu l x < l.length ∧ (∀ j : Nat, fu l x = j → j ∈ (orderN l).take n) ∧ (orderN l).take (n + 1) = (orderN l).take n ++ [x] := by
  have hF := fo_iff.1 h
  rw [forder, if_pos h] at hn ⊢
  rw [toInts_length] at hn
  have hx : (orderN l)[n]? = some ((orderN l)[n]'hn) := List.getElem?_eq_getElem hn
  obtain ⟨h1, h2, h3, h4⟩ := hF.order_at hx
  refine ⟨(orderN l)[n]'hn, by rw [toInts, List.getElem?_map, hx]; rfl, h1, h3, ?_, h4, ?_⟩
  · rcases neg_or (fu l ((orderN l)[n]'hn)) with q | q
    · omega
    · obtain ⟨j, hj⟩ : ∃ j : Nat, fu l ((orderN l)[n]'hn) = j := ⟨(fu l ((orderN l)[n]'hn)).toNat, by omega⟩
      have := hF.up _ _ hj
      rw [hj]
      omega
  · rw [List.take_add_one, hx]; rfl
end Go.Proofs.Ytigljoafmefbnaa
