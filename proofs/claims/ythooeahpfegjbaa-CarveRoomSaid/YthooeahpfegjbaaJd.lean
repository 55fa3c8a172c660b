/-
  The first state may be; who has its slots, who holds its things. Condition: the Geo is Good, the room from 1 to 4096.
-/
import Derived.Test.YthooeahpfegjbaaJc
namespace Go.Proofs.Ythooeahpfegjbaa

theorem newT_good {t room : Int} {i : Nat} (ht : t ≤ 4) (h1 : 1 ≤ room) (h2 : room ≤ 4096) : Gth (newT t room i) := by
  unfold newT
  split
  · exact .room room 0 h1 h2 (by omega) (by omega)
  · split
    · exact .mail
    · split
      · exact .node 3 (8 * ((i : Int) - 2)) (by omega) (by omega) (by omega) (by have : tw2 3 = 8 := rfl; omega)
      · exact .none
theorem newT_two {t room : Int} {i : Nat} (h : (newT t room i).ty = 2) : 2 ≤ i ∧ (i : Int) < 2 + t ∧ newT t room i = rootT ((i : Int) - 2) := by
  unfold newT at h ⊢
  split at h
  · cases h
  · rename_i h0
    split at h
    · cases h
    · rename_i h1
      split at h
      · rename_i h2
        rw [if_neg h0, if_neg h1, if_pos h2]
        exact ⟨by omega, h2, rfl⟩
      · cases h
theorem newT_frm (t room : Int) (i : Nat) : (newT t room i).frm = 0 := by
  unfold newT
  split
  · rfl
  · split
    · rfl
    · split <;> rfl
theorem newT_root {t room : Int} {i : Nat} (h : (i : Int) < t) : newT t room (2 + i) = rootT i := by
  rw [newT, if_neg (by omega), if_neg (by omega), if_pos (by omega)]
  congr 1
  omega
theorem newS_ty {t : Int} {i : Nat} : (newS t i).c.ty ≠ 2 := by
  unfold newS
  split
  · show (1 : Int) ≠ 2
    decide
  · split
    · show (3 : Int) ≠ 2
      decide
    · show (0 : Int) ≠ 2
      decide
theorem newS_one {t : Int} (h : 1 ≤ t) : newS t 1 = ⟨⟨3, 1, 7, 0⟩, -1⟩ := by
  rw [newS, if_neg (by omega), if_pos ⟨by omega, by omega⟩, if_pos rfl]
theorem upOf_new {t : Int} (i : Nat) : upOf (newS t i) = if i = 0 then -1 else if i % 8 = 1 ∧ ((i / 8 : Nat) : Int) < t then (if i = 1 then -1 else 1) else -2 := by
  unfold newS
  split
  · rfl
  · split
    · split <;> rfl
    · rfl
theorem rootT_has {t k : Int} : (rootT t).hasS k = true ↔ 8 * t ≤ k ∧ k < 8 * t + 8 := by
  rw [Tng.hasS_iff]
  have : tw2 3 = 8 := rfl
  simp only [rootT, this, true_and]

section
variable {g : Gd} {room : Int}
theorem new_th (hg : g.ok = true) {i : Nat} (hi : (i : Int) < g.k) : thAt (snewS g room).th i = newT g.t room i := by
  obtain ⟨h1, h2, h3, h4, h5, h6, h7⟩ := Gd.ok_iff.1 hg
  exact thAt_range _ (by omega)
theorem new_sl (hg : g.ok = true) {i : Nat} (hi : (i : Int) < g.s) : slAt (snewS g room).sl i = newS g.t i := by
  obtain ⟨h1, h2, h3, h4, h5, h6, h7⟩ := Gd.ok_iff.1 hg
  exact slAt_range _ (by omega)
theorem new_ths (hg : g.ok = true) : ((snewS g room).th.length : Int) = g.k := by
  obtain ⟨h1, h2, h3, h4, h5, h6, h7⟩ := Gd.ok_iff.1 hg
  simp [snewS]
  omega
theorem new_sls (hg : g.ok = true) : ((snewS g room).sl.length : Int) = g.s := by
  obtain ⟨h1, h2, h3, h4, h5, h6, h7⟩ := Gd.ok_iff.1 hg
  simp [snewS]
  omega
theorem new_root (hg : g.ok = true) {t : Nat} (ht : (t : Int) < g.t) : thAt (snewS g room).th (2 + t) = rootT t := by
  obtain ⟨h1, h2, h3, h4, h5, h6, h7⟩ := Gd.ok_iff.1 hg
  rw [new_th hg (by omega), newT_root ht]
theorem new_owner (hg : g.ok = true) {t k : Nat} (ht : (t : Int) < g.t) (h8 : k / 8 = t) : ownerN (snewS g room).th k = some (2 + t) := by
  obtain ⟨h1, h2, h3, h4, h5, h6, h7⟩ := Gd.ok_iff.1 hg
  refine ownerN_some.2 ⟨?_, ?_, fun j hj => ?_⟩
  · have := new_ths (room := room) hg
    omega
  · rw [new_root hg ht, rootT_has]
    omega
  · rw [new_th hg (by omega), Bool.eq_false_iff]
    intro e
    obtain ⟨a, b, c⟩ := newT_two (Tng.hasS_iff.1 e).1
    rw [c, rootT_has] at e
    omega
theorem new_edges (hg : g.ok = true) : edgesN (snewS g room).th (snewS g room).sl = [] := by
  refine List.eq_nil_iff_forall_not_mem.2 fun e he => ?_
  obtain ⟨i, h1, h2, _⟩ := mem_edges.1 he
  have := new_sls (room := room) hg
  rw [new_sl hg (by omega)] at h2
  exact newS_ty h2
theorem snew_good (hg : g.ok = true) (hr : inr3 room 1 4096 = true) : sgood (snewS g room) = true := by
  have hth := new_ths (room := room) hg
  have hsl := new_sls (room := room) hg
  have hth2 : ∀ i : Nat, i < (snewS g room).th.length → thAt (snewS g room).th i = newT g.t room i := fun i h => new_th hg (by omega)
  have hsl2 : ∀ i : Nat, i < (snewS g room).sl.length → slAt (snewS g room).sl i = newS g.t i := fun i h => new_sl hg (by omega)
  have hown : ∀ {t k : Nat}, (t : Int) < g.t → k / 8 = t → ownerN (snewS g room).th k = some (2 + t) := fun h1 h2 => new_owner hg h1 h2
  have hed := new_edges (room := room) hg
  have hgg : (snewS g room).g = g := rfl
  obtain ⟨h1, h2, h3, h4, h5, h6, h7⟩ := Gd.ok_iff.1 hg
  obtain ⟨r1, r2⟩ := inr3_iff.1 hr
  generalize hs : snewS g room = s at *
  have h80 : tw2 3 = 8 := rfl
  refine sgood_iff.2 ⟨?_, fun i hi => ?_, fun t ht => ?_, fun i hi => ?_, ?_, fun i hi => ?_, fun i hi => ?_⟩
  · rw [St.k1, hgg, hg, decide_eq_true hsl, decide_eq_true hth]; rfl
  · rw [St.k2, hth2 i hi, Bool.and_eq_true, Bool.and_eq_true, Bool.and_eq_true]
    refine ⟨tng_good.2 (newT_good h2 r1 r2), ?_, ?_, ?_⟩
    · rw [St.fits2, hgg]
      by_cases e : (newT g.t room i).ty = 2
      · obtain ⟨a, b, c⟩ := newT_two e
        rw [c]
        simp only [rootT, h80, beq_self_eq_true, Bool.true_and, Bool.not_eq_true', decide_eq_false_iff_not]
        omega
      · rw [beq_eq_false_iff_ne.2 e]; rfl
    · rw [List.all_eq_true]
      intro k hk
      rw [List.mem_range] at hk
      rw [hth2 k (by omega), Bool.not_eq_true', Bool.eq_false_iff]
      intro e
      simp only [Tng.meets, Bool.and_eq_true, beq_iff_eq, decide_eq_true_eq] at e
      obtain ⟨a, b, c⟩ := newT_two e.1
      obtain ⟨a', b', c'⟩ := newT_two e.2.1
      rw [c, c'] at e
      simp only [rootT, h80] at e
      omega
    · rw [St.from2, newT_frm]; rfl
  · rw [hgg] at ht
    rw [St.k3, hth2 (2 + t) (by omega), newT_root ht]
    exact Tng.eq_self _
  · rw [St.k4, hsl2 i hi]
    by_cases e0 : i = 0
    · subst e0
      have hd : (newS g.t 0) = ⟨⟨1, 0, 7, 0⟩, -1⟩ := rfl
      rw [hd]
      simp only [show Cp.good ⟨1, 0, 7, 0⟩ = true by decide +kernel, Bool.true_and, show ¬ (1 : Int) = 0 by decide, if_false]
      rw [St.thing4, hown (t := 0) (by omega) (by omega), Bool.and_eq_true, Bool.and_eq_true]
      refine ⟨⟨decide_eq_true (show (0 : Int) < (s.th.length : Int) by omega), ?_⟩, rfl⟩
      show (thAt s.th 0).ty == 1
      rw [hth2 0 (by omega)]
      rfl
    · by_cases e1 : i % 8 = 1 ∧ ((i / 8 : Nat) : Int) < g.t
      · obtain ⟨u, hu⟩ : ∃ u, newS g.t i = ⟨⟨3, 1, 7, 0⟩, u⟩ := ⟨_, by rw [newS, if_neg e0, if_pos e1]⟩
        rw [hu]
        simp only [show Cp.good ⟨3, 1, 7, 0⟩ = true by decide +kernel, Bool.true_and, show ¬ (3 : Int) = 0 by decide, if_false]
        rw [St.thing4, hown (t := i / 8) e1.2 rfl, Bool.and_eq_true, Bool.and_eq_true]
        refine ⟨⟨decide_eq_true (show (1 : Int) < (s.th.length : Int) by omega), ?_⟩, rfl⟩
        show (thAt s.th 1).ty == 3
        rw [hth2 1 (by omega)]
        rfl
      · rw [newS, if_neg e0, if_neg e1]
        rfl
  · have hlen := upsOf_length s.sl
    have hfu : ∀ k, fu (upsOf s.sl) k ≠ -2 → (fu (upsOf s.sl) k = -1 ∨ fu (upsOf s.sl) k = 1 ∧ k ≠ 1) := fun k hk => by
      have hk2 := fu_in hk
      rw [hlen] at hk2
      rw [fu_ups hk2, hsl2 k hk2, upOf_new] at hk ⊢
      split
      · exact .inl rfl
      · split
        · split
          · exact .inl rfl
          · rename_i q
            exact .inr ⟨rfl, q⟩
        · rename_i q1 q2
          rw [if_neg q1, if_neg q2] at hk
          exact absurd rfl hk
    have hone : fu (upsOf s.sl) 1 = -1 := by rw [fu_ups (by omega), hsl2 1 (by omega), upOf_new, if_neg (by omega), if_pos ⟨by omega, by omega⟩, if_pos rfl]
    refine fo_iff.2 (fo_of_rank (by omega) (fun k => ?_) (fun k j hj => ?_) (fun k => if k = 1 then 0 else 1) (fun k j hj => ?_) fun k hk => ?_)
    · by_cases e : fu (upsOf s.sl) k = -2
      · omega
      · rcases hfu k e with e | e <;> omega
    · rcases hfu k (by omega) with e | e
      · omega
      · obtain rfl : j = 1 := by omega
        exact ⟨by omega, by omega⟩
    · rcases hfu k (by omega) with e | e
      · omega
      · obtain rfl : j = 1 := by omega
        rw [if_pos rfl, if_neg e.2]
        omega
    · show (if k = 1 then 0 else 1) < _
      split <;> omega
  · rw [St.k6, hsl2 i hi]
    by_cases e0 : i = 0
    · subst e0; rfl
    · by_cases e1 : i % 8 = 1 ∧ ((i / 8 : Nat) : Int) < g.t
      · rw [newS, if_neg e0, if_pos e1]
        by_cases e2 : i = 1
        · rw [if_pos e2]; rfl
        · rw [if_neg e2]
          show (_ || (_ && (_ || cameOk ⟨3, 1, 7, 0⟩ (slAt s.sl 1).c))) = true
          rw [hsl2 1 (by omega), newS_one h1]
          decide +kernel
      · rw [newS, if_neg e0, if_neg e1]
        rfl
  · rw [St.k7, Bool.and_eq_true]
    refine ⟨?_, ?_⟩
    · rw [hth2 i hi, Bool.not_eq_true', Bool.and_eq_false_iff, Bool.and_eq_false_iff]
      by_cases e0 : i = 0
      · subst e0
        refine .inr (.inr ?_)
        rw [List.isEmpty_eq_false_iff_exists_mem]
        refine ⟨0, mem_holdN.2 ⟨by omega, ?_, ?_⟩⟩ <;> rw [hsl2 0 (by omega)]
        · show (1 : Int) ≠ 0
          decide
        · rfl
      · by_cases e1 : i = 1
        · subst e1
          refine .inr (.inr ?_)
          rw [List.isEmpty_eq_false_iff_exists_mem]
          refine ⟨1, mem_holdN.2 ⟨by omega, ?_, ?_⟩⟩ <;> rw [hsl2 1 (by omega), newS_one h1]
          · decide
          · rfl
        · by_cases e2 : (i : Int) < 2 + g.t
          · refine .inr (.inl ?_)
            rw [Bool.not_eq_false', St.root, hgg, decide_eq_true (by omega), decide_eq_true e2]
            rfl
          · refine .inl ?_
            rw [newT, if_neg e0, if_neg e1, if_neg e2]
            rfl
    · rw [ringN, hed]
      simp
theorem hold_tab : ∀ q, q ≤ 12 → ∀ t, t ≤ 4 → t ≤ q → ((List.range (8 * q)).filter fun i => decide (i % 8 = 1) && decide (i / 8 < t)).length = t := by decide +kernel
theorem new_hold (hg : g.ok = true) : ((holdN (snewS g room).sl 1).length : Int) = g.t := by
  have hsl := new_sls (room := room) hg
  have hsl2 : ∀ i : Nat, i < (snewS g room).sl.length → slAt (snewS g room).sl i = newS g.t i := fun i h => new_sl hg (by omega)
  obtain ⟨h1, h2, h3, h4, h5, h6, h7⟩ := Gd.ok_iff.1 hg
  have ht := hold_tab (g.s.toNat / 8) (by omega) g.t.toNat (by omega) (by omega)
  rw [show 8 * (g.s.toNat / 8) = (snewS g room).sl.length by omega] at ht
  rw [holdN, List.filter_congr (q := fun i => decide (i % 8 = 1) && decide (i / 8 < g.t.toNat)) (fun i hi => ?_), ht]
  · omega
  · rw [List.mem_range] at hi
    rw [hsl2 i hi, holds, newS]
    by_cases e0 : i = 0
    · subst e0; rfl
    · rw [if_neg e0]
      by_cases e1 : i % 8 = 1 ∧ ((i / 8 : Nat) : Int) < g.t
      · have e2 : i / 8 < g.t.toNat := by omega
        rw [if_pos e1, decide_eq_true e1.1, decide_eq_true e2]; rfl
      · rw [if_neg e1]
        show false = _
        symm
        rw [Bool.and_eq_false_iff, decide_eq_false_iff_not, decide_eq_false_iff_not]
        by_cases e2 : i % 8 = 1
        · exact .inr fun h => e1 ⟨e2, by omega⟩
        · exact .inl e2
theorem new_free (hg : g.ok = true) : freeN (snewS g room).th = if 2 + g.t < g.k then some (2 + g.t.toNat) else none := by
  have hth := new_ths (room := room) hg
  have hth2 : ∀ i : Nat, i < (snewS g room).th.length → thAt (snewS g room).th i = newT g.t room i := fun i h => new_th hg (by omega)
  obtain ⟨h1, h2, h3, h4, h5, h6, h7⟩ := Gd.ok_iff.1 hg
  have hty : ∀ j : Nat, (j : Int) < 2 + g.t → (newT g.t room j).ty ≠ 0 := fun j hj => by
    unfold newT
    split
    · show (1 : Int) ≠ 0
      decide
    · split
      · show (3 : Int) ≠ 0
        decide
      · show (2 : Int) ≠ 0
        decide
  split
  · refine freeN_some.2 ⟨by omega, ?_, fun j hj => ?_⟩
    · rw [hth2 _ (by omega), newT, if_neg (by omega), if_neg (by omega), if_neg (by omega)]; rfl
    · rw [hth2 _ (by omega)]; exact hty j (by omega)
  · refine freeN_none.2 fun j hj => ?_
    rw [hth2 _ hj]
    exact hty j (by omega)
end
end Go.Proofs.Ythooeahpfegjbaa
