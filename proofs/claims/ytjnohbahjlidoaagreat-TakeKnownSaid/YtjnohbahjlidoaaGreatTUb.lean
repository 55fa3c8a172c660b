/-
  A copy that is emptied again; all slots emptied: plain facts. Condition: the state may be.
-/
import Derived.Test.YtjnohbahjlidoaaGreatTUa
namespace Go.Proofs.YtjnohbahjlidoaaGreat
open Go.RowKit
set_option linter.unusedSimpArgs false
set_option linter.unusedVariables false

section
variable {s : St} {F T : Nat} {c : Cp} (G : Gst s) (M : Pts s F T c)
include G M
theorem Pts.upNe {k : Nat} (hk : k < s.sl.length) : (slAt s.sl k).up ≠ (T : Int) := fun e => by
  rcases hn : (slAt s.sl k).c.non with _ | _
  · obtain ⟨h1, h2, -⟩ := G.upFull hk hn (by omega)
    rw [e, Int.toNat_natCast, M.emp] at h2
    cases h2
  · rw [G.empAt hk hn] at e
    simp only at e
    omega
theorem Pts.frmNe {k : Nat} (hk : k < s.th.length) : (thAt s.th k).frm ≠ (T : Int) + 1 := fun e => by
  have h := G.k2 k hk
  simp only [St.k2, Bool.and_eq_true] at h
  have h2 := h.2.2.2
  rw [St.from2, e, Bool.not_eq_true', Bool.and_eq_false_iff, Bool.or_eq_false_iff, decide_eq_false_iff_not] at h2
  rcases h2 with h2 | h2
  · omega
  · have : ((T : Int) + 1 - 1).toNat = T := by omega
    rw [this, M.emp] at h2
    cases h2.2
theorem Pts.cutBack : cutS (gputS s F T c) T = s := by
  have e1 : slAt (gputS s F T c).sl T = ⟨c, F⟩ := by rw [M.slIs, if_pos rfl]
  have hT : T < (gputS s F T c).sl.length := by rw [puts_sl]; exact M.dst
  have h1 : (cutS (gputS s F T c) T).sl = s.sl := by
    refine sl_ext (by rw [cut_sl, puts_sl]) fun j hj => ?_
    rw [cut_sl] at hj
    rw [cut_slAt hT hj]
    rw [puts_sl] at hj
    by_cases e : j = T
    · subst e
      rw [if_pos rfl, G.empAt hj M.emp]
    · rw [if_neg e, e1, M.slIs j, if_neg e, ux, if_neg (M.upNe G hj)]
  have h2 : (cutS (gputS s F T c) T).th = s.th := by
    refine th_ext (by rw [cut_th]; rfl) fun j hj => ?_
    rw [cut_th] at hj
    rw [cut_thAt]
    show tx T (thAt s.th j) = thAt s.th j
    rw [tx, if_neg (M.frmNe G hj)]
  have h3 : (cutS (gputS s F T c) T).g = s.g := rfl
  obtain ⟨g, sl, th⟩ := s
  generalize cutS (gputS ⟨g, sl, th⟩ F T c) T = q at h1 h2 h3
  obtain ⟨g', sl', th'⟩ := q
  simp only at h1 h2 h3
  rw [h1, h2, h3]
theorem Pts.empBack (f : Nat) : empF (f + 1) (gputS s F T c) T = (s, 1) := by
  have e1 : slAt (gputS s F T c).sl T = ⟨c, F⟩ := by rw [M.slIs, if_pos rfl]
  have hb := M.cutBack G
  rw [emp_kept (by rw [e1]; exact M.non) ?_, hb]
  rw [hb, e1, Bool.or_eq_true]
  exact .inr (heldZ_iff.2 ⟨F, M.src, M.full, (less_eqs M.non M.less).2.symm⟩)
theorem Pts.allBack : empAll (gputS s F T c) [(T : Int)] = (s, 1) := by
  have hT : (T : Int) < (gputS s F T c).sl.length := by rw [puts_sl]; have := M.dst; omega
  rw [empAll, if_pos (sgood_iff.2 (M.gst G)), runE_cons, runE_nil, eAt, if_pos ⟨by omega, hT⟩, Int.toNat_natCast, M.empBack G]
  rfl
end

/-! ### all of them -/
def tUpto (n : Nat) : List Int := toInts (List.range n)
theorem tUpto_succ (n : Nat) : tUpto (n + 1) = tUpto n ++ [(n : Int)] := by rw [tUpto, List.range_succ, toInts, List.map_append]; rfl
theorem tUpto_len (n : Nat) : (tUpto n).length = n := by simp [tUpto, toInts]
structure Agn (s : St) (r : St × Nat) : Prop where
  num : r.2 = fullN s.sl
  g : r.1.g = s.g
  sl : r.1.sl.length = s.sl.length
  th : r.1.th.length = s.th.length
  emp : ∀ j, j < s.sl.length → slAt r.1.sl j = ⟨.none, -1⟩
  thg : ∀ j, j < s.th.length → (!decide ((thAt r.1.th j).ty = 0)) = rootZ s (j : Int)
  good : sgood r.1 = true
theorem runA_all {s : St} (L : Liv s) (h96 : s.sl.length ≤ 96) : ∀ n, n ≤ s.sl.length → ∀ j, j < n → (slAt (runE eAt (tUpto n) s).1.sl j).c.non = true
  | 0, _, j, hj => absurd hj (by omega)
  | n + 1, hn, j, hj => by
    have E := runA_emd (tUpto n) L
    rw [tUpto_succ, runE_snoc]
    have hn2 : n < (runE eAt (tUpto n) s).1.sl.length := by rw [E.sl]; omega
    have e : eAt (runE eAt (tUpto n) s).1 (n : Int) = empF 96 (runE eAt (tUpto n) s).1 n := by
      rw [eAt, if_pos ⟨by omega, by omega⟩, Int.toNat_natCast]
    show (slAt (eAt (runE eAt (tUpto n) s).1 (n : Int)).1.sl j).c.non = true
    rw [e]
    by_cases q : j = n
    · subst q
      refine emp_done E.liv hn2 ?_
      have : fullN (runE eAt (tUpto j) s).1.sl ≤ (runE eAt (tUpto j) s).1.sl.length := List.countP_le_length
      rw [E.sl] at this
      omega
    · have h1 := runA_all L h96 n (by omega) j (by omega)
      exact (emp_emd 96 _ n E.liv hn2).non j (by rw [E.sl]; omega) h1
theorem root_in {s : St} {j : Nat} (h : rootZ s (j : Int) = true) : ∃ t : Nat, j = 2 + t ∧ (t : Int) < s.g.t := by
  simp only [rootZ, Bool.and_eq_true, decide_eq_true_eq] at h
  exact ⟨j - 2, by omega, by omega⟩
theorem agn_good {s : St} (L : Liv s) (hE : ∀ j, j < s.sl.length → slAt s.sl j = ⟨.none, -1⟩) : (∀ j, j < s.th.length → thAt s.th j = if rootZ s (j : Int) = true then rootT ((j : Int) - 2) else .zero) ∧ Gst s := by
  have hT : ∀ j, j < s.th.length → thAt s.th j = if rootZ s (j : Int) = true then rootT ((j : Int) - 2) else .zero := fun j hj => by
    by_cases hr : rootZ s (j : Int) = true
    · rw [if_pos hr]
      obtain ⟨t, rfl, ht⟩ := root_in hr
      rw [L.root t ht]
      congr 1
      omega
    · rw [if_neg hr]
      have h0 : (thAt s.th j).ty = 0 := by
        refine Classical.byContradiction fun q => ?_
        rcases L.held j hj q with h | h
        · exact hr h
        · obtain ⟨i, hi, h1, -⟩ := heldZ_iff.1 h
          rw [hE i hi] at h1
          cases h1
      have G := tng_good.1 (L.tok j hj)
      generalize thAt s.th j = x at G h0
      cases G with
      | none => rfl
      | _ => cases h0
  refine ⟨hT, ?_⟩
  obtain ⟨o1, o2, o3, o4, o5, o6, o7⟩ := Gd.ok_iff.1 L.ok
  have h80 : tw2 3 = 8 := rfl
  have two : ∀ {j}, j < s.th.length → (thAt s.th j).ty = 2 → ∃ t : Nat, j = 2 + t ∧ (t : Int) < s.g.t ∧ thAt s.th j = rootT t := fun {j} hj h2 => by
    rw [hT j hj] at h2
    by_cases hr : rootZ s (j : Int) = true
    · obtain ⟨t, rfl, ht⟩ := root_in hr
      exact ⟨t, rfl, ht, L.root t ht⟩
    · rw [if_neg hr] at h2
      cases h2
  have hfrm : ∀ {j}, j < s.th.length → (thAt s.th j).frm = 0 := fun {j} hj => by
    rw [hT j hj]
    by_cases hr : rootZ s (j : Int) = true
    · rw [if_pos hr]; rfl
    · rw [if_neg hr]; rfl
  have hed : edgesN s.th s.sl = [] := List.eq_nil_iff_forall_not_mem.2 fun e he => by
    obtain ⟨i, h1, h2, _⟩ := mem_edges.1 he
    rw [hE i h1] at h2
    cases h2
  refine ⟨?_, fun i hi => ?_, fun t ht => ?_, fun i hi => ?_, ?_, fun i hi => ?_, fun i hi => ?_⟩
  · rw [St.k1, L.ok, decide_eq_true L.ls, decide_eq_true L.lt]; rfl
  · rw [St.k2, Bool.and_eq_true, Bool.and_eq_true, Bool.and_eq_true]
    refine ⟨L.tok i hi, ?_, ?_, ?_⟩
    · rw [St.fits2]
      by_cases e : (thAt s.th i).ty = 2
      · have := L.nd i hi e
        have h3 := L.ls
        rw [decide_eq_false (show ¬ s.g.s < (thAt s.th i).base + tw2 (thAt s.th i).bits by omega), Bool.and_false]
        rfl
      · rw [beq_eq_false_iff_ne.2 e]; rfl
    · rw [List.all_eq_true]
      intro k hk
      rw [List.mem_range] at hk
      rw [Bool.not_eq_true', Bool.eq_false_iff]
      intro e
      simp only [Tng.meets, Bool.and_eq_true, beq_iff_eq, decide_eq_true_eq] at e
      obtain ⟨a, b, c, d⟩ := two hi e.1
      obtain ⟨a', b', c', d'⟩ := two (by omega) e.2.1
      rw [d, d'] at e
      simp only [rootT, h80] at e
      omega
    · rw [St.from2, hfrm hi]; rfl
  · rw [St.k3, L.root t ht]
    exact Tng.eq_self _
  · rw [St.k4, hE i hi]
    rfl
  · have hall : ∀ k, fu (upsOf s.sl) k = -2 := fun k => by
      by_cases hk : k < s.sl.length
      · rw [fu_ups hk, hE k hk]; rfl
      · exact fu_out (by rw [upsOf_length]; omega)
    refine fo_iff.2 (fo_of_rank (by rw [upsOf_length]; have := L.ls; omega) (fun k => ?_) (fun k j hj => ?_) (fun _ => 0) (fun k j hj => ?_) fun k hk => ?_)
    · rw [hall k]; omega
    · rw [hall k] at hj; omega
    · rw [hall k] at hj; omega
    · show 0 < _
      omega
  · rw [St.k6, hE i hi]
    rfl
  · have hring : ringN s i = false := by rw [ringN, hed]; rfl
    rw [St.k7, hring, Bool.and_false]
    by_cases hr : rootZ s (i : Int) = true
    · have : s.root i = true := by
        simp only [rootZ, Bool.and_eq_true, decide_eq_true_eq] at hr
        simp only [St.root, Bool.and_eq_true, decide_eq_true_eq]
        omega
      rw [this]
      simp
    · rw [hT i hi, if_neg hr]
      rfl
theorem agn_of {s : St} (G : Gst s) : Agn s (empAll s (tUpto s.sl.length)) := by
  have L := Liv.of G
  rw [empAll, if_pos (sgood_iff.2 G)]
  have E := runA_emd (tUpto s.sl.length) L
  have hN := runA_all L G.few.1 s.sl.length (Nat.le_refl _)
  have hE : ∀ j, j < s.sl.length → slAt (runE eAt (tUpto s.sl.length) s).1.sl j = ⟨.none, -1⟩ := fun j hj => E.liv.emp j (by rw [E.sl]; exact hj) (hN j hj)
  obtain ⟨hT, hG⟩ := agn_good E.liv (fun j hj => hE j (by rw [E.sl] at hj; exact hj))
  have hroot : ∀ j : Int, rootZ (runE eAt (tUpto s.sl.length) s).1 j = rootZ s j := fun j => by rw [rootZ, E.g]; rfl
  refine ⟨?_, E.g, E.sl, E.th, hE, fun j hj => ?_, sgood_iff.2 hG⟩
  · have h0 : fullN (runE eAt (tUpto s.sl.length) s).1.sl = 0 := by
      rw [fullN, List.countP_eq_zero]
      intro x hx
      obtain ⟨j, hj, e⟩ := List.getElem_of_mem hx
      have ex : slAt (runE eAt (tUpto s.sl.length) s).1.sl j = x := slAt_at (by rw [List.getElem?_eq_getElem hj, e])
      rw [E.sl] at hj
      rw [← ex, hE j hj]
      decide
    have := E.num
    omega
  · rw [hT j (by rw [E.th]; exact hj), hroot]
    rcases hr : rootZ s (j : Int) with _ | _
    · rw [if_neg (by decide)]; rfl
    · rw [if_pos rfl]; rfl
end Go.Proofs.YtjnohbahjlidoaaGreat
