/-
  Plain facts for RowLasts, with no program in them: what the law has kept of the words behind each store, and where what lasts stands among them. No condition.
-/
import Derived.Test.YtigdhgikdknlmaaRh
namespace Go.Proofs.Ytigdhgikdknlmaa
open Go.RowKit

/-- rows of words, laid end to end -/
def flat (bs : List (List Int)) : List Value := bs.flatMap wcells
theorem flat_snoc (bs : List (List Int)) (zs : List Int) : flat (bs ++ [zs]) = flat bs ++ wcells zs := by
  unfold flat; simp
theorem flat_one : ∀ (bs : List (List Int)), ∀ u ∈ flat bs, u.oneCell' = true := by
  intro bs u hu
  unfold flat at hu
  obtain ⟨b, _, h⟩ := List.mem_flatMap.1 hu
  exact wcells_one u h
theorem flat_length : ∀ (bs : List (List Int)), (∀ b ∈ bs, b.length = 8) → (flat bs).length = bs.length * 8
  | [], _ => rfl
  | b :: r, h => by
    have ih := flat_length r (fun x hx => h x (by simp [hx]))
    have e : flat (b :: r) = wcells b ++ flat r := rfl
    rw [e, List.length_append, wcells_length, h b (by simp), ih, List.length_cons]
    omega
theorem flat_get : ∀ (bs : List (List Int)), (∀ b ∈ bs, b.length = 8) → ∀ (i j : Nat) (b : List Int), bs[i]? = some b → j < 8 → (flat bs)[i * 8 + j]? = some (.int .u64 (b.getD j 0))
  | [], _, _, _, _, h, _ => by simp at h
  | c :: r, h, 0, j, b, hb, hj => by
    have e : flat (c :: r) = wcells c ++ flat r := rfl
    simp at hb
    subst hb
    rw [e, Nat.zero_mul, Nat.zero_add, List.getElem?_append_left (by rw [wcells_length, h c (by simp)]; exact hj), wcells_get (by rw [h c (by simp)]; exact hj)]
  | c :: r, h, i + 1, j, b, hb, hj => by
    have ih := flat_get r (fun x hx => h x (by simp [hx])) i j b (by simpa using hb) hj
    have e : flat (c :: r) = wcells c ++ flat r := rfl
    rw [e, List.getElem?_append_right (by rw [wcells_length, h c (by simp)]; omega), wcells_length, h c (by simp), show (i + 1) * 8 + j - 8 = i * 8 + j by omega]
    exact ih

/-- what the law knows at the head of a round -/
structure LB (r : Ln) (bs : List (List Int)) (su : Nat) (se : Int) : Prop where
  each : ∀ b ∈ bs, b.length = 8
  last : ∃ pre, bs = pre ++ [r.N]
  sure : su < bs.length
  has : r.L ∈ bs.drop su
  calm : r.out = false → r.L = r.N
  sent : r.sent = true → r.out = true ∧ se = bs.length - 1
  was : se = -1 ∨ (se = bs.length - 1 ∧ (r.sent = true ∨ r.out = false))

section
variable {r : Ln} {bs : List (List Int)} {su : Nat} {se : Int}
theorem LB.pos (h : LB r bs su se) : 0 < bs.length := Nat.lt_of_le_of_lt (Nat.zero_le _) h.sure
theorem LB.newest (h : LB r bs su se) : r.N ∈ bs.drop su := by
  obtain ⟨pre, e⟩ := h.last
  have hs := h.sure
  rw [e] at hs ⊢
  rw [List.length_append, List.length_singleton] at hs
  rw [List.drop_append_of_le_length (by omega)]
  simp
theorem LB.tail (h : LB r bs su se) : bs.drop (bs.length - 1) = [r.N] := by
  obtain ⟨pre, e⟩ := h.last
  rw [e, List.length_append, List.length_singleton, Nat.add_sub_cancel, List.drop_append_of_le_length (Nat.le_refl _), List.drop_length]
  rfl
theorem LB.first : LB blank [zeros] 0 (-1) :=
  ⟨fun b hb => by simp at hb; subst hb; rfl, ⟨[], rfl⟩, by decide, by simp [blank], fun _ => rfl, fun h => (by cases h), .inl rfl⟩
theorem LB.store (h : LB r bs su se) (zs : List Int) (hz : zs.length = 8) : LB { r with N := zs, out := true, sent := false } (bs ++ [zs]) su (-1) := by
  have hs := h.sure
  refine ⟨fun b hb => ?_, ⟨bs, rfl⟩, by rw [List.length_append]; omega, ?_, fun h => (by cases h), fun h => (by cases h), .inl rfl⟩
  · rcases List.mem_append.1 hb with hb | hb
    · exact h.each b hb
    · simp at hb; subst hb; exact hz
  · rw [List.drop_append_of_le_length (by omega)]
    exact List.mem_append_left _ h.has
theorem LB.flushed (h : LB r bs su se) : LB r.flush bs su ((bs.length : Int) - 1) := by
  refine ⟨h.each, h.last, h.sure, h.has, h.calm, fun hs => ⟨?_, rfl⟩, .inr ⟨rfl, ?_⟩⟩
  · have hs : (r.out || r.sent) = true := hs
    rcases Bool.or_eq_true _ _ ▸ hs with h1 | h1
    · exact h1
    · exact (h.sent h1).1
  · show (r.out || r.sent) = true ∨ r.out = false
    cases r.out
    · exact .inr rfl
    · exact .inl rfl
theorem LB.fenced_no (h : LB r bs su (-1)) : LB r.fence bs su (-1) := by
  have hs : r.sent = false := by
    cases hs : r.sent
    · rfl
    · have := (h.sent hs).2
      have := h.pos
      omega
  have e : r.fence = r := by unfold Ln.fence; rw [hs]; rfl
  rw [e]; exact h
theorem LB.fenced_yes (h : LB r bs su ((bs.length : Int) - 1)) : LB r.fence bs (bs.length - 1) ((bs.length : Int) - 1) := by
  have hp := h.pos
  have hw : r.sent = true ∨ r.out = false := by
    rcases h.was with h1 | h1
    · omega
    · exact h1.2
  rcases hw with h1 | h1
  · have h2 := (h.sent h1).1
    have e : r.fence = settled r.N := by unfold Ln.fence; rw [h1, h2]; rfl
    rw [e]
    exact ⟨h.each, h.last, by omega, by rw [h.tail]; simp [settled], fun _ => rfl, fun h => (by cases h), .inr ⟨rfl, .inr rfl⟩⟩
  · have hs : r.sent = false := by
      cases hs : r.sent
      · rfl
      · have := (h.sent hs).1
        rw [h1] at this; cases this
    have e : r.fence = r := by unfold Ln.fence; rw [hs]; rfl
    rw [e]
    exact ⟨h.each, h.last, by omega, by rw [h.tail, h.calm h1]; simp, h.calm, h.sent, .inr ⟨rfl, .inr h1⟩⟩
theorem LB.fallen (h : LB r bs su se) (keep : Bool) : (r.fall keep).N = (r.fall keep).L ∧ (keep = true → (r.fall keep).N = r.N) ∧ (r.fall keep).L ∈ bs.drop su := by
  unfold Ln.fall
  cases ho : r.out
  · have hc := h.calm ho
    exact ⟨hc.symm, fun _ => rfl, h.has⟩
  · cases keep
    · exact ⟨rfl, fun h => (by cases h), h.has⟩
    · exact ⟨rfl, fun _ => rfl, h.newest⟩
end
theorem and_seven (k : Nat) (h : k < 8) : bits .and .i64 (k : Int) 7 = (k : Int) := by
  match k, h with
  | 0, _ => decide
  | 1, _ => decide
  | 2, _ => decide
  | 3, _ => decide
  | 4, _ => decide
  | 5, _ => decide
  | 6, _ => decide
  | 7, _ => decide
end Go.Proofs.Ytigdhgikdknlmaa
