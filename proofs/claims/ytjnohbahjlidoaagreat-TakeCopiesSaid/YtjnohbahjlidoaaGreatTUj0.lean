/-
  A copy that is deleted again leaves all as it was: plain facts. Condition: the state may be.
-/
import Derived.Test.YtjnohbahjlidoaaGreatTUb
import Derived.Test.YtjnohbahjlidoaaGreatTDe
namespace Go.Proofs.YtjnohbahjlidoaaGreat
open Go.RowKit
set_option linter.unusedSimpArgs false
set_option linter.unusedVariables false

theorem gput_some {s s' : St} {f t : Int} {k : Cp} {e : Int} (h : gput s f t k = (some s', e)) : ∃ F Y : Nat, f = F ∧ t = Y ∧ Gst s ∧ Pts s F Y k ∧ s' = gputS s F Y k ∧ e = 0 := by
  rw [gput] at h
  split at h
  · rename_i h0
    obtain ⟨F, Y, rfl, rfl, hG, hP⟩ := gmay_zero h0
    obtain ⟨h1, h2⟩ := Prod.mk.inj h
    injection h1 with h1
    rw [Int.toNat_natCast, Int.toNat_natCast] at h1
    exact ⟨F, Y, rfl, rfl, hG, hP, h1.symm, h2.symm⟩
  · obtain ⟨h1, -⟩ := Prod.mk.inj h; cases h1
theorem gput_none {s : St} {f t : Int} {k : Cp} {e : Int} (h : gput s f t k = (none, e)) : e ≠ 0 := by
  rw [gput] at h
  split at h
  · obtain ⟨h1, -⟩ := Prod.mk.inj h; cases h1
  · rename_i h0
    obtain ⟨-, h2⟩ := Prod.mk.inj h
    rw [← h2]
    exact h0
theorem ganswer_none {s : St} {t : Int} {c : Cl} {e : Int} (h : ganswer s t c = (none, e)) : e ≠ 0 := by
  unfold ganswer at h
  split at h
  · obtain ⟨-, h⟩ := Prod.mk.inj h; omega
  · split at h
    · rename_i h1
      obtain ⟨-, h⟩ := Prod.mk.inj h; rw [← h]; exact h1
    · split at h
      · rename_i h1
        obtain ⟨-, h⟩ := Prod.mk.inj h; rw [← h]; exact h1
      · split at h
        · rename_i h1
          obtain ⟨-, h⟩ := Prod.mk.inj h; rw [← h]; exact h1
        · split at h
          · rw [gmove] at h
            split at h
            · obtain ⟨-, h⟩ := Prod.mk.inj h; omega
            · obtain ⟨h, -⟩ := Prod.mk.inj h; cases h
          · exact gput_none h
theorem gdo_none {s : St} {t : Int} {c : Cl} {q : Rep} (h : gdo s t c = (none, q)) : q.err ≠ 0 := by
  rw [gdo] at h
  obtain ⟨h1, h2⟩ := Prod.mk.inj h
  rw [← h2]
  exact ganswer_none (Prod.ext h1 rfl)
/-- a way of one step -/
theorem fslot_one {s : St} {t x z : Int} (h : fslot s t [x] = (z, 0)) : fthread s t = true ∧ pgood [x] = true ∧ x < szN s (2 + t).toNat ∧ z = ((bsN s (2 + t).toNat + x.toNat : Nat) : Int) := by
  rw [fslot] at h
  split at h
  · rename_i hc
    rw [fwhere, ffol] at h
    split at h
    · rename_i hx
      rw [fpair] at h
      exact ⟨hc.1, hc.2, hx, (Prod.mk.inj h).1.symm⟩
    · rw [fpair] at h
      cases (Prod.mk.inj h).2
  · cases (Prod.mk.inj h).2

theorem put_fslot {s : St} {f t : Nat} {k : Cp} {th x z : Int} (hg : sgood (gputS s f t k) = true) (h : fslot s th [x] = (z, 0)) : fslot (gputS s f t k) th [x] = (z, 0) := by
  obtain ⟨h1, h2, h3, h4⟩ := fslot_one h
  have h5 : fthread (gputS s f t k) th = true := by
    obtain ⟨-, k1, k2⟩ := fthread_iff.1 h1
    exact fthread_iff.2 ⟨hg, k1, k2⟩
  have e1 : szN (gputS s f t k) (2 + th).toNat = szN s (2 + th).toNat := rfl
  have e2 : bsN (gputS s f t k) (2 + th).toNat = bsN s (2 + th).toNat := rfl
  rw [fslot, if_pos ⟨h5, h2⟩, fwhere, ffol, e1, if_pos h3, e2, h4]
  rfl
theorem gdo_copy {s s' : St} {t x : Int} {la lb : List Int} {q : Rep} (h : gdo s t ⟨2, la, lb, x, 0, 0⟩ = (some s', q)) : ∃ (F Y : Nat) (k : Cp), Gst s ∧ Pts s F Y k ∧ s' = gputS s F Y k ∧ q = ⟨0, 0, 0⟩ ∧ cgood ⟨2, la, lb, x, 0, 0⟩ = true ∧ fslot s t lb = ((Y : Int), 0) := by
  rw [gdo] at h
  obtain ⟨h1, h2⟩ := Prod.mk.inj h
  obtain ⟨e, he⟩ : ∃ e, ganswer s t ⟨2, la, lb, x, 0, 0⟩ = (some s', e) := ⟨_, Prod.ext h1 rfl⟩
  rw [he] at h2
  clear h h1
  unfold ganswer at he
  split at he
  · cases (Prod.mk.inj he).1
  · rename_i g0
    have g0 : cgood ⟨2, la, lb, x, 0, 0⟩ = true := by
      rcases hg : cgood ⟨2, la, lb, x, 0, 0⟩ with _ | _
      · exact absurd (fun q => by rw [hg] at q; exact absurd q.2.2 (by decide)) g0
      · rfl
    split at he
    · cases (Prod.mk.inj he).1
    · split at he
      · cases (Prod.mk.inj he).1
      · split at he
        · cases (Prod.mk.inj he).1
        · rename_i g3
          rw [if_neg (show ¬ (⟨2, la, lb, x, 0, 0⟩ : Cl).op = 4 from (by decide : ¬ (2 : Int) = 4))] at he
          have g3 : (fempty s t lb).2 = 0 := by simpa using g3
          obtain ⟨F, Y, e1, e2, hG, hP, e3, e4⟩ := gput_some he
          refine ⟨F, Y, _, hG, hP, e3, by rw [← h2, e4], g0, ?_⟩
          have hs : (fslot s t lb).2 = 0 := by
            refine Decidable.byContradiction fun q => ?_
            rw [fempty, if_neg q] at g3
            exact q g3
          refine Prod.ext ?_ hs
          simp only at e2
          rw [← e2, fempty, if_pos hs]
          split
          · rfl
          · rename_i h5
            rw [fempty, if_pos hs, if_neg h5] at g3
            cases g3
theorem cgood_del {y x : Int} {la : List Int} (h : cgood ⟨2, la, [y], x, 0, 0⟩ = true) : cgood ⟨5, [y], [], 0, 0, 0⟩ = true := by
  have e : fmOf 2 = some (forms 2) := rfl
  have e5 : fmOf 5 = some (forms 5) := rfl
  simp only [cgood, e, e5, fits, forms, inSpan, Bool.and_eq_true, Bool.or_eq_true, decide_eq_true_eq, List.length_singleton, List.length_nil] at h ⊢
  have hp : pgood [y] = true := h.2.2.1.resolve_left (by decide)
  simp [hp]
theorem copy_back {s s' : St} {t x y0 : Int} {la : List Int} {q : Rep} (h : gdo s t ⟨2, la, [y0], x, 0, 0⟩ = (some s', q)) : Gst s' ∧ s'.sl.length = s.sl.length ∧ s'.th.length = s.th.length ∧ s'.g = s.g ∧ 0 < s.sl.length ∧ 0 < s.th.length ∧ q = ⟨0, 0, 0⟩ ∧ tdo s' t ⟨5, [y0], [], 0, 0, 0⟩ = (some s, ⟨0, 0, 1⟩) := by
  obtain ⟨F, Y, k, G, M, rfl, hq, hc, hY⟩ := gdo_copy h
  have G' := M.gst G
  have hg' := sgood_iff.2 G'
  have F4 := M.src4 G
  refine ⟨G', puts_sl, rfl, rfl, by have := M.src; omega, by have := F4.th; omega, hq, ?_⟩
  have hY' := put_fslot (f := F) (t := Y) (k := k) hg' hY
  have sY : slAt (gputS s F Y k).sl Y = ⟨k, F⟩ := by rw [M.slIs, if_pos rfl]
  have hcap : fcap (gputS s F Y k) t [y0] = ((Y : Int), k, 0) := by
    rw [fcap, hY']
    simp only [Int.toNat_natCast, sY]
    rw [if_pos trivial, if_neg (by rw [M.non]; decide)]
  have hsl : tslots (gputS s F Y k) (Y : Int) 5 = [(Y : Int)] := by rw [tslots, if_neg (by decide)]
  rw [tdo, if_pos ⟨.inl rfl, cgood_del hc⟩]
  simp only [hcap]
  rw [if_pos trivial, hsl, M.allBack G]
  rfl
end Go.Proofs.YtjnohbahjlidoaaGreat
