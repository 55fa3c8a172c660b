/-
  What is moved there and back, as plain data. Condition: the state may be.
-/
import Derived.Test.YtfoklgenpafciaaDg
namespace Go.Proofs.Ytfoklgenpafciaa
open Go.RowKit
set_option linter.unusedVariables false

theorem hasS_one {s : St} (G : Gst s) {i j : Nat} {z : Int} (hi : i < s.th.length) (hj : j < s.th.length) (h1 : (thAt s.th i).hasS z = true) (h2 : (thAt s.th j).hasS z = true) : i = j := by
  have main : ∀ i j : Nat, j < i → i < s.th.length → (thAt s.th i).hasS z = true → (thAt s.th j).hasS z = true → False := fun i j hji hi h1 h2 => by
    have hk := G.k2 i hi
    simp only [St.k2, Bool.and_eq_true, List.all_eq_true, List.mem_range, Bool.not_eq_true'] at hk
    have h3 := hk.2.2.1 j hji
    obtain ⟨a1, a2, a3⟩ := Tng.hasS_iff.1 h1
    obtain ⟨b1, b2, b3⟩ := Tng.hasS_iff.1 h2
    have : (thAt s.th i).meets (thAt s.th j) = true := by
      simp only [Tng.meets, Bool.and_eq_true, beq_iff_eq, decide_eq_true_eq]
      exact ⟨a1, b1, by omega, by omega⟩
    rw [this] at h3
    cases h3
  rcases Nat.lt_trichotomy i j with h | h | h
  · exact absurd (main j i h hj h2 h1) id
  · exact h
  · exact absurd (main i j h hi h1 h2) id
theorem owner_one {s : St} (G : Gst s) {i : Nat} {z : Int} (hi : i < s.th.length) (h : (thAt s.th i).hasS z = true) : ownerN s.th z = some i := by
  rcases ho : ownerN s.th z with _ | o
  · rw [ownerN_none.1 ho i hi] at h; cases h
  · obtain ⟨h1, h2, -⟩ := ownerN_some.1 ho
    rw [hasS_one G h1 hi h2 h]
theorem one_hasS {s : St} {i : Nat} (hn : Nd s i) {x : Int} (h0 : 0 ≤ x) (hx : x < szN s i) : (thAt s.th i).hasS ((bsN s i + x.toNat : Nat) : Int) = true := by
  obtain ⟨z1, -, -⟩ := szN_is hn
  have z2 := bsN_is hn
  exact Tng.hasS_iff.2 ⟨hn.ty, by omega, by omega⟩
/-- a way of one step -/
theorem fslot_one {s : St} {t x z : Int} (h : fslot s t [x] = (z, 0)) : fthread s t = true ∧ pgood [x] = true ∧ x < szN s (2 + t).toNat ∧ z = ((bsN s (2 + t).toNat + x.toNat : Nat) : Int) := by
  rw [fslot] at h
  split at h
  · rename_i hc
    rw [fwhere, ffol] at h
    split at h
    · rename_i hx
      rw [fpair] at h
      exact ⟨hc.1, hc.2, hx, (Prod.mk.inj h).1.symm⟩
    · rw [fpair] at h
      cases (Prod.mk.inj h).2
  · cases (Prod.mk.inj h).2
theorem mv_sz (s : St) (f t i : Nat) : szN (gmvS s f t) i = szN s i ∧ bsN (gmvS s f t) i = bsN s i := by
  rw [szN, szN, bsN, bsN, gmv_thAt]
  exact ⟨rfl, rfl⟩
theorem mv_fslot {s : St} {f t : Nat} {th x z : Int} (hg : sgood (gmvS s f t) = true) (h : fslot s th [x] = (z, 0)) : fslot (gmvS s f t) th [x] = (z, 0) := by
  obtain ⟨h1, h2, h3, h4⟩ := fslot_one h
  have h5 : fthread (gmvS s f t) th = true := by
    obtain ⟨-, k1, k2⟩ := fthread_iff.1 h1
    exact fthread_iff.2 ⟨hg, k1, k2⟩
  rw [fslot, if_pos ⟨h5, h2⟩, fwhere, ffol, (mv_sz s f t _).1, if_pos h3, (mv_sz s f t _).2, h4]
  rfl
theorem Mvs.back {s : St} {f t : Nat} (G : Gst s) (M : Mvs s f t) : gmvS (gmvS s f t) t f = s := by
  have hne := M.ne
  have e1 : (gmvS (gmvS s f t) t f).sl = s.sl := by
    refine sl_ext (by rw [gmv_sl, gmv_sl]) fun k hk => ?_
    rw [gmv_sl, gmv_sl] at hk
    have hk' : k < (gmvS s f t).sl.length := by rw [gmv_sl]; exact hk
    have hrr : ∀ j, j < s.sl.length → ren t f (ren f t (slAt s.sl j).up) = (slAt s.sl j).up := fun j hj => by
      have h1 := M.upNe G hj
      unfold ren
      by_cases h : (slAt s.sl j).up = (f : Int)
      · rw [if_pos h, if_pos rfl, h]
      · rw [if_neg h, if_neg h1]
    rw [gmv_slAt hk', mvSl]
    by_cases e1 : k = f
    · subst e1
      rw [if_pos rfl, gmv_slAt M.dst, mvSl_t]
      show (⟨(slAt s.sl k).c, ren t k (ren k t (slAt s.sl k).up)⟩ : Sl) = _
      rw [hrr k M.src]
    · rw [if_neg e1]
      by_cases e2 : k = t
      · subst e2
        rw [if_pos rfl, G.empAt M.dst M.emp]
      · rw [if_neg e2, gmv_slAt hk, mvSl_o s e2 e1]
        show (⟨(slAt s.sl k).c, ren t f (ren f t (slAt s.sl k).up)⟩ : Sl) = _
        rw [hrr k hk]
  have e2 : (gmvS (gmvS s f t) t f).th = s.th := by
    refine th_ext (by rw [gmv_th, gmv_th]) fun k hk => ?_
    rw [gmv_th, gmv_th] at hk
    rw [gmv_thAt, gmv_thAt]
    have hfrm : (thAt s.th k).frm ≠ (t : Int) + 1 := fun e => by
      have h2 := G.k2 k hk
      simp only [St.k2, Bool.and_eq_true] at h2
      have h3 := h2.2.2.2
      rw [St.from2, Bool.not_eq_true', Bool.and_eq_false_iff, Bool.or_eq_false_iff, decide_eq_false_iff_not] at h3
      rcases h3 with h3 | ⟨-, h3⟩
      · omega
      · rw [e, show ((t : Int) + 1 - 1).toNat = t by omega, M.emp] at h3
        cases h3
    generalize thAt s.th k = x at hfrm
    obtain ⟨a1, a2, a3, a4, a5, fr, a7, a8, a9, b0, b1, b2, b3⟩ := x
    simp only [mvTh] at hfrm ⊢
    by_cases e : fr = (f : Int) + 1
    · rw [if_pos e, if_pos rfl, e]
    · rw [if_neg e, if_neg hfrm]
  show (⟨(gmvS (gmvS s f t) t f).g, (gmvS (gmvS s f t) t f).sl, (gmvS (gmvS s f t) t f).th⟩ : St) = s
  rw [e1, e2]
  rfl
/-- what is moved -/
theorem gdo_move {s s' : St} {t : Int} {la lb : List Int} {q : Rep} (h : gdo s t ⟨4, la, lb, 0, 0, 0⟩ = (some s', q)) : ∃ F Y : Nat, Gst s ∧ Mvs s F Y ∧ s' = gmvS s F Y ∧ q = ⟨0, 0, 0⟩ ∧ cgood ⟨4, la, lb, 0, 0, 0⟩ = true ∧ fslot s t la = ((F : Int), 0) ∧ fslot s t lb = ((Y : Int), 0) := by
  rw [gdo] at h
  obtain ⟨h1, h2⟩ := Prod.mk.inj h
  obtain ⟨e, he⟩ : ∃ e, ganswer s t ⟨4, la, lb, 0, 0, 0⟩ = (some s', e) := ⟨_, Prod.ext h1 rfl⟩
  rw [he] at h2
  clear h h1
  unfold ganswer at he
  split at he
  · cases (Prod.mk.inj he).1
  · rename_i g0
    have g0 : cgood ⟨4, la, lb, 0, 0, 0⟩ = true := by
      rcases hg : cgood ⟨4, la, lb, 0, 0, 0⟩ with _ | _
      · exact absurd (fun q => by rw [hg] at q; exact absurd q.2.2 (by decide)) g0
      · rfl
    split at he
    · cases (Prod.mk.inj he).1
    · rename_i g1
      split at he
      · cases (Prod.mk.inj he).1
      · split at he
        · cases (Prod.mk.inj he).1
        · rename_i g3
          rw [if_pos rfl] at he
          have g1 : (fcap s t la).2.2 = 0 := by simpa using g1
          have g3 : (fempty s t lb).2 = 0 := by simpa using g3
          obtain ⟨F, hF, hFl, hg, hFc, hFn⟩ := fcap_yes (s := s) (t := t) (l := la) (x := (fcap s t la).1) (cp := (fcap s t la).2.1) (Prod.ext rfl (Prod.ext rfl g1))
          obtain ⟨Y, hY, hYl, -, hYe⟩ := fempty_slot (s := s) (t := t) (l := lb) (x := (fempty s t lb).1) (Prod.ext rfl g3)
          have how := fempty_owned (s := s) (t := t) (l := lb) (x := (fempty s t lb).1) (Prod.ext rfl g3)
          rw [hY] at how
          simp only [hF, hY, Int.toNat_natCast] at he
          rw [gmove] at he
          split at he
          · cases (Prod.mk.inj he).1
          · rename_i hin
            obtain ⟨h3, h4⟩ := Prod.mk.inj he
            injection h3 with h3
            have hin : insideN s (slAt s.sl F).c.th Y = false := by
              rw [sinside, hg, Bool.true_and] at hin
              simpa using hin
            refine ⟨F, Y, sgood_iff.1 hg, ⟨hFl, by rw [hFc]; exact hFn, hYl, hYe, how, hin⟩, h3.symm, by rw [← h2, ← h4], g0, ?_, ?_⟩
            · have hs : (fslot s t la).2 = 0 := by
                refine Decidable.byContradiction fun q => ?_
                rw [fcap, if_neg q] at g1
                exact q g1
              refine Prod.ext ?_ hs
              rw [← hF, fcap, if_pos hs]
              split
              · rename_i h5
                rw [fcap, if_pos hs, if_pos h5] at g1
                cases g1
              · rfl
            · have hs : (fslot s t lb).2 = 0 := by
                refine Decidable.byContradiction fun q => ?_
                rw [fempty, if_neg q] at g3
                exact q g3
              refine Prod.ext ?_ hs
              rw [← hY, fempty, if_pos hs]
              split
              · rfl
              · rename_i h5
                rw [fempty, if_pos hs, if_neg h5] at g3
                cases g3
theorem cgood_swap {x y : Int} (h : cgood ⟨4, [x], [y], 0, 0, 0⟩ = true) : cgood ⟨4, [y], [x], 0, 0, 0⟩ = true := by
  have e : fmOf 4 = some (forms 4) := rfl
  simp only [cgood, e, fits, forms, inSpan, Bool.and_eq_true, Bool.or_eq_true, decide_eq_true_eq, List.length_singleton] at h ⊢
  simp_all
theorem move_back {s s' : St} {t x y : Int} {q : Rep} (h : gdo s t ⟨4, [x], [y], 0, 0, 0⟩ = (some s', q)) : Gst s' ∧ s'.sl.length = s.sl.length ∧ s'.th.length = s.th.length ∧ s'.g = s.g ∧ 0 < s.sl.length ∧ 0 < s.th.length ∧ q = ⟨0, 0, 0⟩ ∧ gdo s' t ⟨4, [y], [x], 0, 0, 0⟩ = (some s, ⟨0, 0, 0⟩) := by
  obtain ⟨F, Y, G, M, rfl, hq, hc, hF, hY⟩ := gdo_move h
  have G' := M.gst G
  have hg' := sgood_iff.2 G'
  have hne := M.ne
  have F4 := M.src4 G
  refine ⟨G', gmv_sl s F Y, gmv_th s F Y, rfl, by have := M.src; omega, by have := F4.th; omega, hq, ?_⟩
  have hF' := mv_fslot (f := F) (t := Y) hg' hF
  have hY' := mv_fslot (f := F) (t := Y) hg' hY
  obtain ⟨a1, a2, a3, a4⟩ := fslot_one hF
  obtain ⟨b1, b2, b3, b4⟩ := fslot_one hY
  obtain ⟨-, t0, t1⟩ := fthread_iff.1 a1
  have hn : Nd s (2 + t).toNat := by rw [show (2 + t).toNat = 2 + t.toNat by omega]; exact nd_root G (by omega)
  have x0 := (pgood_iff.1 a2).2.2 x (by simp)
  have y0 := (pgood_iff.1 b2).2.2 y (by simp)
  have oF : ownerN s.th (F : Int) = some (2 + t).toNat := owner_one G hn.lt (by rw [a4]; exact one_hasS hn x0.1 a3)
  have oY : ownerN s.th (Y : Int) = some (2 + t).toNat := owner_one G hn.lt (by rw [b4]; exact one_hasS hn y0.1 b3)
  have sY : slAt (gmvS s F Y).sl Y = ⟨(slAt s.sl F).c, ren F Y (slAt s.sl F).up⟩ := by rw [gmv_slAt M.dst, mvSl_t]
  have sF : slAt (gmvS s F Y).sl F = ⟨.none, -1⟩ := by rw [gmv_slAt M.src, mvSl_f s hne]
  have hcap : fcap (gmvS s F Y) t [y] = ((Y : Int), (slAt s.sl F).c, 0) := by
    rw [fcap, hY']
    simp only [Int.toNat_natCast, sY]
    rw [if_pos trivial, if_neg (by rw [M.full]; decide)]
  have hemp : fempty (gmvS s F Y) t [x] = ((F : Int), 0) := by
    rw [fempty, hF']
    simp only [Int.toNat_natCast, sF]
    rw [if_pos trivial, if_pos (by rfl)]
  have hins : sinside (gmvS s F Y) (slAt s.sl F).c.th F = false := by
    rw [sinside, hg', Bool.true_and, Bool.eq_false_iff]
    intro e
    have e0 := e
    rw [insideN] at e0
    simp only [Bool.and_eq_true, decide_eq_true_eq] at e0
    have hth : (slAt s.sl F).c.th = ((thOf s F : Nat) : Int) := by rw [thOf]; have := F4.th0; omega
    have h2 : (thAt s.th (thOf s F)).ty = 2 := by
      have := e0.2.2.1
      rw [gmv_thAt] at this
      exact this
    rw [hth] at e
    have hr := (inside_rch G' (x := thOf s F) (o := (2 + t).toNat) (z := (F : Int)) (by rw [gmv_th]; exact F4.th) (by rw [gmv_thAt]; exact h2) (by rw [gmv_owner]; exact oF)).1 e
    have hedge : ((2 + t).toNat, thOf s F) ∈ edgesN s.th s.sl := mem_edges.2 ⟨F, M.src, by rw [← F4.thty]; exact h2, oF, rfl⟩
    have hno := G.edgeNo hedge
    rcases rch_more (fun e h => M.edges G h oY) hr with k | ⟨k, -⟩
    · exact hno k
    · exact hno k
  have hga : ganswer (gmvS s F Y) t ⟨4, [y], [x], 0, 0, 0⟩ = (some s, 0) := by
    unfold ganswer
    rw [if_neg (fun q => q ⟨by show (2 : Int) ≤ 4; omega, by show (4 : Int) ≤ 4; omega, cgood_swap hc⟩)]
    simp only [hcap, hemp]
    rw [if_neg (by simp)]
    have hgv : ggiven (slAt s.sl F).c 4 0 0 = ((slAt s.sl F).c, 0) := by rw [ggiven, if_neg (by decide), if_neg (by decide)]
    rw [hgv, if_neg (by simp), if_neg (by simp), if_pos trivial, gmove]
    simp only [Int.toNat_natCast, sY]
    rw [if_neg (by rw [hins]; decide), M.back G]
  rw [gdo, hga]
end Go.Proofs.Ytfoklgenpafciaa
