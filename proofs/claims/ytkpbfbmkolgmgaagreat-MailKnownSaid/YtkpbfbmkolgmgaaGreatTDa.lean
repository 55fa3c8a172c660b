/-
  What give puts and moves, as plain data: a state behind it may be, too. Condition: the state may be, the places fit it.
-/
import Derived.Test.YtkpbfbmkolgmgaaGreatTF1
import Derived.Test.YtkpbfbmkolgmgaaGreatTB3
namespace Go.Proofs.YtkpbfbmkolgmgaaGreat
open Go.RowKit

/-! ### nodes in nodes, with one pair more -/
theorem rch_more {E E' : List (Nat × Nat)} {o x : Nat} {P : Prop} (hE : ∀ e ∈ E', e ∈ E ∨ (e = (o, x) ∧ P)) {a b : Nat} (h : Rch E' a b) : Rch E a b ∨ (Rch E a o ∧ Rch E x b ∧ P) := by
  induction h with
  | self => exact .inl .self
  | step h1 h2 ih =>
    rcases hE _ h2 with q | ⟨q, p⟩
    · rcases ih with k | ⟨k1, k2, k3⟩
      · exact .inl (k.step q)
      · exact .inr ⟨k1, k2.step q, k3⟩
    · obtain ⟨rfl, rfl⟩ := Prod.mk.inj q
      rcases ih with k | ⟨k1, k2, k3⟩
      · exact .inr ⟨k, .self, p⟩
      · exact .inr ⟨k1, .self, p⟩
theorem rch_app {E : List (Nat × Nat)} {a b c : Nat} (h : Rch E a b) (k : Rch E b c) : Rch E a c := by
  induction k with
  | self => exact h
  | step _ h2 ih => exact ih.step h2
theorem Gst.edgeTy {s : St} {e : Nat × Nat} (h : e ∈ edgesN s.th s.sl) : e.1 < s.th.length ∧ (thAt s.th e.1).ty = 2 := by
  obtain ⟨i, hi, h2, h3, h4⟩ := mem_edges.1 h
  obtain ⟨k1, k2, -⟩ := ownerN_some.1 h3
  exact ⟨k1, (Tng.hasS_iff.1 k2).1⟩
theorem Gst.edgeNo {s : St} (G : Gst s) {e : Nat × Nat} (h : e ∈ edgesN s.th s.sl) : ¬ Rch (edgesN s.th s.sl) e.2 e.1 := fun q => by
  obtain ⟨h1, h2⟩ := Gst.edgeTy h
  have hno := G.noRing h1 h2
  have : ringN s e.1 = true := by
    rw [ringN, List.any_eq_true]
    refine ⟨e, h, ?_⟩
    rw [Bool.and_eq_true, beq_iff_eq]
    exact ⟨rfl, (krounds_reach (fun e h => G.edgeLt h) (G.edgeLt h) e.1).2 q⟩
  rw [this] at hno
  cases hno
theorem ring_kept {s s' : St} (G : Gst s) (hl : s'.th.length = s.th.length) {o x : Nat} (hE : ∀ e ∈ edgesN s'.th s'.sl, e ∈ edgesN s.th s.sl ∨ (e = (o, x) ∧ x < s.th.length ∧ ¬ Rch (edgesN s.th s.sl) x o)) (a : Nat) : ringN s' a = false := by
  rw [Bool.eq_false_iff]
  intro e
  rw [ringN, List.any_eq_true] at e
  obtain ⟨⟨b, y⟩, h1, h3⟩ := e
  rw [Bool.and_eq_true, beq_iff_eq] at h3
  obtain ⟨rfl, h4⟩ := h3
  have hlt : ∀ e ∈ edgesN s'.th s'.sl, e.2 < s.th.length := fun e h => (hE e h).elim (fun q => G.edgeLt q) (fun q => by rw [q.1]; exact q.2.1)
  have hr := (krounds_reach hlt (hlt _ h1) b).1 (by rw [underN, hl] at h4; exact h4)
  have key := rch_more hE hr
  rcases hE _ h1 with q | ⟨q, p1, p2⟩
  · rcases key with k | ⟨k1, k2, -, p2⟩
    · exact G.edgeNo q k
    · exact p2 (rch_app (k2.step q) k1)
  · obtain ⟨rfl, rfl⟩ := Prod.mk.inj q
    rcases key with k | ⟨k1, -, -, -⟩
    · exact p2 k
    · exact p2 k1
theorem inside_rch {s : St} (G : Gst s) {x o : Nat} {z : Int} (hx : x < s.th.length) (h2 : (thAt s.th x).ty = 2) (ho : ownerN s.th z = some o) : insideN s x z = true ↔ Rch (edgesN s.th s.sl) x o := by
  have e1 : decide ((0 : Int) ≤ (x : Int)) = true := decide_eq_true (by omega)
  have e2 : decide ((x : Int) < (s.th.length : Int)) = true := decide_eq_true (by omega)
  have e3 : decide ((thAt s.th x).ty = 2) = true := decide_eq_true h2
  rw [insideN, e1, e2, Int.toNat_natCast, e3, ho]
  simp only [Bool.true_and]
  exact krounds_reach (fun e h => G.edgeLt h) hx o

/-! ### put -/
/-- a capability may be put in -/
structure Pts (s : St) (f t : Nat) (c : Cp) : Prop where
  src : f < s.sl.length
  full : (slAt s.sl f).c.non = false
  dst : t < s.sl.length
  emp : (slAt s.sl t).c.non = true
  own : (ownerN s.th (t : Int)).isSome = true
  good : c.good = true
  non : c.non = false
  less : c.less (slAt s.sl f).c = true
  ins : insideN s c.th t = false
def gputS (s : St) (f t : Nat) (c : Cp) : St := ⟨s.g, s.sl.set t ⟨c, f⟩, s.th⟩
theorem non_of_ty {c : Cp} (h : c.ty ≠ 0) : c.non = false := by
  rw [Bool.eq_false_iff]
  intro e
  exact h (by rw [non_ty e]; rfl)
theorem good_ty {c : Cp} (h : c.good = true) (hn : c.non = false) : c.ty ≠ 0 := fun e => by
  rw [(cgood_non h).2 e] at hn
  cases hn
theorem less_eqs {c p : Cp} (hn : c.non = false) (h : c.less p = true) : c.ty = p.ty ∧ c.th = p.th := by
  simp only [Cp.less, hn, Bool.false_or, Bool.and_eq_true, beq_iff_eq] at h
  exact ⟨h.1, h.2.1⟩
theorem Gst.cgood {s : St} (G : Gst s) {i : Nat} (hi : i < s.sl.length) : (slAt s.sl i).c.good = true := by
  have := G.k4 i hi
  rw [St.k4, Bool.and_eq_true] at this
  exact this.1
theorem Gst.fullTy {s : St} (G : Gst s) {i : Nat} (hi : i < s.sl.length) (h : (slAt s.sl i).c.non = false) : (slAt s.sl i).c.ty ≠ 0 := good_ty (G.cgood hi) h
theorem Gst.empAt {s : St} (G : Gst s) {i : Nat} (hi : i < s.sl.length) (h : (slAt s.sl i).c.non = true) : slAt s.sl i = ⟨.none, -1⟩ := G.emp hi (by rw [non_ty h]; rfl)
theorem Gst.fuFull {s : St} (_ : Gst s) {i : Nat} (hi : i < s.sl.length) (h : (slAt s.sl i).c.non = false) : fu (upsOf s.sl) i = (slAt s.sl i).up := by
  rw [fu_ups hi, upOf, if_neg (by rw [h]; decide)]
theorem Gst.upLow {s : St} (G : Gst s) {i : Nat} (hi : i < s.sl.length) : -1 ≤ (slAt s.sl i).up := by
  have h6 := G.k6 i hi
  rw [St.k6] at h6
  simp only [Bool.or_eq_true, Bool.and_eq_true, decide_eq_true_eq] at h6
  rcases h6 with h | h
  · rw [G.emp hi h]
    decide
  · exact h.1
/-- what a full slot's Up tells -/
theorem Gst.upFull {s : St} (G : Gst s) {i : Nat} (hi : i < s.sl.length) (h : (slAt s.sl i).c.non = false) (hu : 0 ≤ (slAt s.sl i).up) : (slAt s.sl i).up.toNat < s.sl.length ∧ (slAt s.sl (slAt s.sl i).up.toNat).c.non = false ∧ cameOk (slAt s.sl i).c (slAt s.sl (slAt s.sl i).up.toNat).c = true := by
  have hfo := fo_iff.1 G.k5
  have h1 := G.fuFull hi h
  obtain ⟨h2, h3⟩ := hfo.up i (slAt s.sl i).up.toNat (by rw [h1]; omega)
  rw [upsOf_length] at h2
  refine ⟨h2, ?_, ?_⟩
  · rw [Bool.eq_false_iff]
    intro e
    rw [fu_ups h2, upOf, if_pos e] at h3
    exact h3 rfl
  · have h6 := G.k6 i hi
    rw [St.k6] at h6
    simp only [Bool.or_eq_true, Bool.and_eq_true, decide_eq_true_eq] at h6
    rcases h6 with q | ⟨-, q | q⟩
    · exact absurd q (G.fullTy hi h)
    · omega
    · exact q
section
variable {s : St} {f t : Nat} {c : Cp} (G : Gst s) (M : Pts s f t c)
include G M
omit G in
theorem Pts.slIs (k : Nat) : slAt (gputS s f t c).sl k = if k = t then ⟨c, f⟩ else slAt s.sl k := by
  rw [gputS, slAt_set M.dst]
omit G M in
theorem puts_sl : (gputS s f t c).sl.length = s.sl.length := by simp [gputS]
omit G in
theorem Pts.ne : f ≠ t := fun e => by
  have h1 := M.full
  rw [e, M.emp] at h1
  cases h1
theorem Pts.src4 : Fsl s f := G.fsl M.src (G.fullTy M.src M.full)
theorem Pts.edges {e : Nat × Nat} (h : e ∈ edgesN (gputS s f t c).th (gputS s f t c).sl) {o : Nat} (ho : ownerN s.th (t : Int) = some o) : e ∈ edgesN s.th s.sl ∨ (e = (o, thOf s f) ∧ thOf s f < s.th.length ∧ ¬ Rch (edgesN s.th s.sl) (thOf s f) o) := by
  obtain ⟨i, hi, h2, h3, h4⟩ := mem_edges.1 h
  rw [puts_sl] at hi
  change ownerN s.th i = some e.1 at h3
  obtain ⟨q1, q2⟩ := less_eqs M.non M.less
  have F := M.src4 G
  rw [M.slIs] at h2 h4
  split at h4
  · rename_i e0
    rw [if_pos e0] at h2
    simp only at h2 h4
    subst e0
    rw [ho] at h3
    obtain rfl := Option.some.inj h3
    have h5 : thOf s f = e.2 := by rw [thOf, ← q2]; exact h4
    refine .inr ⟨Prod.ext rfl h5.symm, F.th, fun r => ?_⟩
    have hi := M.ins
    have h6 : c.th = ((thOf s f : Nat) : Int) := by rw [q2, thOf]; have := F.th0; omega
    rw [h6, (inside_rch G F.th (by rw [F.thty, ← q1]; exact h2) ho).2 r] at hi
    cases hi
  · rename_i e0
    rw [if_neg e0] at h2
    exact .inl (mem_edges.2 ⟨i, hi, h2, h3, h4⟩)
omit G in
theorem Pts.ups : upsOf (gputS s f t c).sl = (upsOf s.sl).set t (f : Int) := by
  rw [gputS, upsOf, upsOf, List.map_set]
  congr 1
  rw [upOf, if_neg (by rw [M.non]; decide)]
theorem Pts.gst : Gst (gputS s f t c) := by
  have hlen := upsOf_length s.sl
  have hfo := fo_iff.1 G.k5
  have hemp := G.empAt M.dst M.emp
  have F := M.src4 G
  obtain ⟨q1, q2⟩ := less_eqs M.non M.less
  have hne := M.ne
  obtain ⟨o, ho⟩ := Option.isSome_iff_exists.1 M.own
  have fto : fu (upsOf s.sl) t = -2 := by rw [fu_ups M.dst, hemp]; rfl
  have ffr : fu (upsOf s.sl) f ≠ -2 := by
    rw [G.fuFull M.src M.full]
    have := G.upLow M.src
    omega
  have hups := M.ups
  have hty : c.ty ≠ 0 := by rw [q1]; exact G.fullTy M.src M.full
  refine ⟨?_, fun i hi => ?_, fun i ht => ?_, fun i hi => ?_, ?_, fun i hi => ?_, fun i hi => ?_⟩
  · have := G.k1
    rw [St.k1] at this ⊢
    rw [puts_sl]
    exact this
  · have hk := G.k2 i hi
    simp only [St.k2, Bool.and_eq_true] at hk ⊢
    obtain ⟨h1, h2, h3, h4⟩ := hk
    refine ⟨h1, h2, h3, ?_⟩
    change (gputS s f t c).from2 (thAt s.th i) = true
    unfold St.from2 at h4 ⊢
    rw [Bool.not_eq_true', Bool.and_eq_false_iff, Bool.or_eq_false_iff] at h4 ⊢
    refine h4.imp id fun q => ⟨q.1, ?_⟩
    rw [M.slIs]
    split
    · exact M.non
    · exact q.2
  · exact G.k3 i ht
  · rw [puts_sl] at hi
    by_cases e : i = t
    · subst e
      rw [St.k4, M.slIs, if_pos rfl]
      simp only [if_neg hty, Bool.and_eq_true]
      refine ⟨M.good, ?_, M.own⟩
      simp only [St.thing4, Bool.and_eq_true, decide_eq_true_eq, beq_iff_eq]
      change c.th < (s.th.length : Int) ∧ (thAt s.th c.th.toNat).ty = c.ty
      rw [q1, q2]
      have h1 := F.th
      have h2 := F.thty
      have h3 := F.th0
      rw [thOf] at h1 h2
      exact ⟨by omega, h2⟩
    · have hk := G.k4 i hi
      rw [St.k4, M.slIs, if_neg e]
      exact hk
  · rw [St.k5, hups]
    refine fo_iff.2 (hfo.add (by rw [hlen]; exact M.dst) fto (.inr ?_))
    exact (there_at hfo f).2 ffr
  · rw [puts_sl] at hi
    by_cases e : i = t
    · subst e
      rw [St.k6, M.slIs, if_pos rfl]
      refine Bool.or_eq_true _ _ ▸ .inr ?_
      simp only [Bool.and_eq_true, Bool.or_eq_true, decide_eq_true_eq, Int.toNat_natCast]
      refine ⟨by omega, .inr ?_⟩
      rw [M.slIs, if_neg hne, cameOk, M.less, Bool.true_or]
    · by_cases h0 : (slAt s.sl i).c.non = true
      · rw [St.k6, M.slIs, if_neg e, G.empAt hi h0]
        rfl
      · have h0 : (slAt s.sl i).c.non = false := by simpa using h0
        rw [St.k6, M.slIs, if_neg e]
        simp only [Bool.or_eq_true, Bool.and_eq_true, decide_eq_true_eq]
        refine .inr ⟨G.upLow hi, ?_⟩
        by_cases hu : (slAt s.sl i).up < 0
        · exact .inl hu
        · obtain ⟨u1, u2, u3⟩ := G.upFull hi h0 (by omega)
          refine .inr ?_
          rw [M.slIs, if_neg]
          · exact u3
          · intro q
            rw [q, M.emp] at u2
            cases u2
  · have hk := G.k7 i hi
    rw [St.k7, Bool.and_eq_true] at hk ⊢
    refine ⟨?_, ?_⟩
    · have h1 := hk.1
      rw [Bool.not_eq_true', Bool.and_eq_false_iff, Bool.and_eq_false_iff] at h1 ⊢
      rcases h1 with h1 | h1 | h1
      · exact .inl h1
      · exact .inr (.inl h1)
      · refine .inr (.inr ?_)
        rw [List.isEmpty_eq_false_iff_exists_mem] at h1 ⊢
        obtain ⟨k, hk⟩ := h1
        obtain ⟨p1, p2, p3⟩ := mem_holdN.1 hk
        have hkt : k ≠ t := fun q => by
          rw [q, hemp] at p2
          exact p2 rfl
        exact ⟨k, mem_holdN.2 ⟨by rw [puts_sl]; exact p1, by rw [M.slIs, if_neg hkt]; exact p2, by rw [M.slIs, if_neg hkt]; exact p3⟩⟩
    · rw [Bool.not_eq_true', Bool.and_eq_false_iff]
      exact .inr (ring_kept (s' := gputS s f t c) G rfl (fun e h => M.edges G h ho) i)
end

/-! ### move -/
/-- what is in a slot may be moved -/
structure Mvs (s : St) (f t : Nat) : Prop where
  src : f < s.sl.length
  full : (slAt s.sl f).c.non = false
  dst : t < s.sl.length
  emp : (slAt s.sl t).c.non = true
  own : (ownerN s.th (t : Int)).isSome = true
  ins : insideN s (slAt s.sl f).c.th t = false
def ren (f t : Nat) (u : Int) : Int := if u = f then t else u
def mvSl (s : St) (f t k : Nat) : Sl := if k = t then ⟨(slAt s.sl f).c, ren f t (slAt s.sl f).up⟩ else if k = f then ⟨.none, -1⟩ else ⟨(slAt s.sl k).c, ren f t (slAt s.sl k).up⟩
def mvTh (f t : Nat) (x : Tng) : Tng := { x with frm := if x.frm = (f : Int) + 1 then (t : Int) + 1 else x.frm }
def gmvS (s : St) (f t : Nat) : St := ⟨s.g, (List.range s.sl.length).map (mvSl s f t), s.th.map (mvTh f t)⟩
theorem mvSl_t (s : St) (f t : Nat) : mvSl s f t t = ⟨(slAt s.sl f).c, ren f t (slAt s.sl f).up⟩ := if_pos rfl
theorem mvSl_f (s : St) {f t : Nat} (h : f ≠ t) : mvSl s f t f = ⟨.none, -1⟩ := by rw [mvSl, if_neg h, if_pos rfl]
theorem mvSl_o (s : St) {f t k : Nat} (h1 : k ≠ t) (h2 : k ≠ f) : mvSl s f t k = ⟨(slAt s.sl k).c, ren f t (slAt s.sl k).up⟩ := by rw [mvSl, if_neg h1, if_neg h2]
theorem mvTh_zero (f t : Nat) : mvTh f t .zero = .zero := by
  rw [mvTh, if_neg (by show ¬ (0 : Int) = _; omega)]
theorem gmv_thAt (s : St) (f t i : Nat) : thAt (gmvS s f t).th i = mvTh f t (thAt s.th i) := by
  by_cases h : i < s.th.length
  · exact thAt_at (by rw [gmvS, List.getElem?_map, thAt_get h]; rfl)
  · rw [thAt_out (by simp only [gmvS, List.length_map]; omega), thAt_out (by omega), mvTh_zero]
theorem gmv_th (s : St) (f t : Nat) : (gmvS s f t).th.length = s.th.length := by simp [gmvS]
theorem gmv_sl (s : St) (f t : Nat) : (gmvS s f t).sl.length = s.sl.length := by simp [gmvS]
theorem gmv_slAt {s : St} {f t i : Nat} (h : i < s.sl.length) : slAt (gmvS s f t).sl i = mvSl s f t i := slAt_range _ h
theorem gmv_owner (s : St) (f t : Nat) (z : Int) : ownerN (gmvS s f t).th z = ownerN s.th z := by
  rw [ownerN, ownerN, gmvS, List.findIdx?_map]
  rfl
section
variable {s : St} {f t : Nat} (G : Gst s) (M : Mvs s f t)
include G M
omit G in
theorem Mvs.ne : f ≠ t := fun e => by
  have h1 := M.full
  rw [e, M.emp] at h1
  cases h1
theorem Mvs.src4 : Fsl s f := G.fsl M.src (G.fullTy M.src M.full)
theorem Mvs.upSelf : (slAt s.sl f).up ≠ (f : Int) := fun e => by
  have hfo := fo_iff.1 G.k5
  exact hfo.not_self f (by rw [G.fuFull M.src M.full, e])
omit G M in
theorem ren_low {f t : Nat} {u : Int} (h : -1 ≤ u) : -1 ≤ ren f t u := by
  unfold ren
  split <;> omega
theorem Mvs.newUp {k : Nat} (hk : k < s.sl.length) : max (fu (moveL (upsOf s.sl) f t) k) (-1) = (mvSl s f t k).up := by
  have hl := upsOf_length s.sl
  rw [fu_move (by rw [hl]; exact M.src) (by rw [hl]; exact M.dst)]
  have h1 := G.upLow M.src
  have hs := M.upSelf G
  have hne := M.ne
  by_cases e1 : k = f
  · subst e1
    rw [if_pos rfl, mvSl_f s hne]
    decide
  · rw [if_neg e1]
    by_cases e2 : k = t
    · subst e2
      rw [if_pos rfl, mvSl_t, G.fuFull M.src M.full, ren, if_neg hs]
      show max (slAt s.sl f).up (-1) = (slAt s.sl f).up
      omega
    · rw [if_neg e2, mvSl_o s e2 e1]
      by_cases h0 : (slAt s.sl k).c.non = true
      · rw [fu_ups hk, G.empAt hk h0]
        show max (if (-2 : Int) = f then _ else _) _ = ren f t (-1)
        rw [if_neg (by omega), ren, if_neg (by omega)]
        decide
      · have h0 : (slAt s.sl k).c.non = false := by simpa using h0
        rw [G.fuFull hk h0]
        have := G.upLow hk
        show _ = ren f t (slAt s.sl k).up
        unfold ren
        split <;> omega
theorem Mvs.ups : upsOf (gmvS s f t).sl = moveL (upsOf s.sl) f t := by
  have hl := upsOf_length s.sl
  refine fu_ext (by rw [upsOf_length, gmv_sl, move_length, hl]) fun k hk => ?_
  rw [upsOf_length, gmv_sl] at hk
  rw [fu_ups (by rw [gmv_sl]; exact hk), gmv_slAt hk, fu_move (by rw [hl]; exact M.src) (by rw [hl]; exact M.dst)]
  have hs := M.upSelf G
  have hne := M.ne
  by_cases e1 : k = f
  · subst e1
    rw [if_pos rfl, mvSl_f s hne]
    rfl
  · rw [if_neg e1]
    by_cases e2 : k = t
    · subst e2
      rw [if_pos rfl, mvSl_t, upOf, if_neg (by rw [M.full]; decide), G.fuFull M.src M.full, ren, if_neg hs]
    · rw [if_neg e2, mvSl_o s e2 e1, upOf]
      by_cases h0 : (slAt s.sl k).c.non = true
      · rw [if_pos h0, fu_ups hk, upOf, if_pos h0, if_neg (by omega)]
      · rw [if_neg h0, G.fuFull hk (by simpa using h0)]
        rfl
omit G in
/-- where a full slot's capability is behind it -/
theorem Mvs.capAt {u : Nat} (hu : u < s.sl.length) (hn : (slAt s.sl u).c.non = false) : (ren f t u).toNat < s.sl.length ∧ (mvSl s f t (ren f t u).toNat).c = (slAt s.sl u).c := by
  have hne := M.ne
  unfold ren
  by_cases e : (u : Int) = f
  · rw [if_pos e, Int.toNat_natCast, mvSl, if_pos rfl]
    obtain rfl : u = f := by omega
    exact ⟨M.dst, rfl⟩
  · rw [if_neg e, Int.toNat_natCast, mvSl, if_neg, if_neg (by omega)]
    · exact ⟨hu, rfl⟩
    · intro q
      rw [q, M.emp] at hn
      cases hn
theorem Mvs.edges {e : Nat × Nat} (h : e ∈ edgesN (gmvS s f t).th (gmvS s f t).sl) {o : Nat} (ho : ownerN s.th (t : Int) = some o) : e ∈ edgesN s.th s.sl ∨ (e = (o, thOf s f) ∧ thOf s f < s.th.length ∧ ¬ Rch (edgesN s.th s.sl) (thOf s f) o) := by
  obtain ⟨i, hi, h2, h3, h4⟩ := mem_edges.1 h
  rw [gmv_sl] at hi
  rw [gmv_owner] at h3
  rw [gmv_slAt hi, mvSl] at h2 h4
  have F := M.src4 G
  by_cases e1 : i = t
  · rw [if_pos e1] at h2 h4
    simp only at h2 h4
    subst e1
    rw [ho] at h3
    obtain rfl := Option.some.inj h3
    refine .inr ⟨Prod.ext rfl h4.symm, F.th, fun r => ?_⟩
    have hi := M.ins
    have h6 : (slAt s.sl f).c.th = ((thOf s f : Nat) : Int) := by rw [thOf]; have := F.th0; omega
    rw [h6, (inside_rch G F.th (by rw [F.thty]; exact h2) ho).2 r] at hi
    cases hi
  · rw [if_neg e1] at h2 h4
    by_cases e2 : i = f
    · rw [if_pos e2] at h2
      simp only [Cp.none] at h2
      omega
    · rw [if_neg e2] at h2 h4
      exact .inl (mem_edges.2 ⟨i, hi, h2, h3, h4⟩)
theorem Mvs.gst : Gst (gmvS s f t) := by
  have hlen := upsOf_length s.sl
  have hfo := fo_iff.1 G.k5
  have hemp := G.empAt M.dst M.emp
  have F := M.src4 G
  have hne := M.ne
  have hlens := G.lens
  have hfew := G.few
  obtain ⟨o, ho⟩ := Option.isSome_iff_exists.1 M.own
  have fto : fu (upsOf s.sl) t = -2 := by rw [fu_ups M.dst, hemp]; rfl
  have ffr : fu (upsOf s.sl) f ≠ -2 := by
    rw [G.fuFull M.src M.full]
    have := G.upLow M.src
    omega
  refine ⟨?_, fun i hi => ?_, fun i ht => ?_, fun i hi => ?_, ?_, fun i hi => ?_, fun i hi => ?_⟩
  · have := G.k1
    rw [St.k1] at this ⊢
    rw [gmv_sl, gmv_th]
    exact this
  · rw [gmv_th] at hi
    have hk := G.k2 i hi
    simp only [St.k2, Bool.and_eq_true] at hk ⊢
    obtain ⟨h1, h2, h3, h4⟩ := hk
    rw [gmv_thAt]
    refine ⟨?_, h2, ?_, ?_⟩
    · have hc := tng_good.1 h1
      refine tng_good.2 ?_
      generalize thAt s.th i = x at *
      have hz : ∀ y : Tng, y.frm = 0 → mvTh f t y = y := fun y hy => by
        rw [mvTh, if_neg (by rw [hy]; omega)]
      rcases hc with _ | ⟨a, b, c1, c2, c3, c4⟩ | ⟨a, b, c1, c2, c3, c4⟩ | _ | ⟨a, b, d, c1, c2, c3, c4⟩ | a | ⟨a, b, d, e⟩
      · rw [hz _ rfl]; exact .none
      · rw [hz _ rfl]; exact .room a b c1 c2 c3 c4
      · rw [hz _ rfl]; exact .node a b c1 c2 c3 c4
      · rw [hz _ rfl]; exact .mail
      · refine .full a b (if d = (f : Int) + 1 then (t : Int) + 1 else d) c1 c2 ?_ ?_
        · split <;> omega
        · have := M.dst
          split <;> omega
      · rw [hz _ rfl]; exact .bell a
      · rw [hz _ rfl]; exact .leaf a b d e
    · rw [List.all_eq_true] at h3 ⊢
      intro k hk
      rw [gmv_thAt]
      exact h3 k hk
    · unfold St.from2 at h4 ⊢
      rw [Bool.not_eq_true', Bool.and_eq_false_iff, Bool.or_eq_false_iff, decide_eq_false_iff_not, decide_eq_false_iff_not] at h4 ⊢
      have hd := M.dst
      have hg : (gmvS s f t).g = s.g := rfl
      rw [hg]
      show ¬ 0 < (if (thAt s.th i).frm = (f : Int) + 1 then (t : Int) + 1 else (thAt s.th i).frm) ∨ ¬ s.g.s < (if (thAt s.th i).frm = (f : Int) + 1 then (t : Int) + 1 else (thAt s.th i).frm) ∧ (slAt (gmvS s f t).sl ((if (thAt s.th i).frm = (f : Int) + 1 then (t : Int) + 1 else (thAt s.th i).frm) - 1).toNat).c.non = false
      by_cases e : (thAt s.th i).frm = (f : Int) + 1
      · rw [if_pos e]
        refine .inr ⟨by omega, ?_⟩
        rw [show ((t : Int) + 1 - 1).toNat = t by omega, gmv_slAt hd, mvSl, if_pos rfl]
        exact M.full
      · rw [if_neg e]
        by_cases hp : 0 < (thAt s.th i).frm
        · refine h4.imp id fun q => ⟨q.1, ?_⟩
          have hb : ((thAt s.th i).frm - 1).toNat < s.sl.length := by have := q.1; omega
          rw [gmv_slAt hb, mvSl, if_neg, if_neg (by omega)]
          · exact q.2
          · intro q0
            have := q.2
            rw [q0, M.emp] at this
            cases this
        · exact .inl hp
  · have h3 := Tng.eq_iff.1 (G.k3 i ht)
    rw [St.k3, gmv_thAt, h3, mvTh, if_neg (by show ¬ (0 : Int) = _; omega)]
    exact Tng.eq_self _
  · rw [gmv_sl] at hi
    rw [St.k4, gmv_slAt hi, mvSl]
    have h4f := G.k4 f M.src
    have hth4 : ∀ c, (gmvS s f t).thing4 c = s.thing4 c := fun c => by
      rw [St.thing4, St.thing4, gmv_th, gmv_thAt]
      rfl
    rw [hth4, gmv_owner]
    by_cases e1 : i = t
    · rw [if_pos e1]
      have hty := G.fullTy M.src M.full
      rw [St.k4, if_neg hty, Bool.and_eq_true, Bool.and_eq_true] at h4f
      simp only [if_neg hty, Bool.and_eq_true]
      exact ⟨h4f.1, h4f.2.1, by rw [e1]; exact M.own⟩
    · rw [if_neg e1]
      by_cases e2 : i = f
      · rw [if_pos e2]; rfl
      · rw [if_neg e2]
        have hk := G.k4 i hi
        rw [St.k4] at hk
        by_cases h0 : (slAt s.sl i).c.ty = 0
        · rw [G.emp hi h0]
          have hr : ren f t (-1) = -1 := by rw [ren, if_neg (by omega)]
          show (Cp.none.good && (ren f t (-1) == -1)) = true
          rw [hr]
          rfl
        · simp only [if_neg h0] at hk ⊢
          exact hk
  · rw [St.k5, M.ups G]
    exact fo_iff.2 (hfo.move ffr (by rw [hlen]; exact M.dst) fto)
  · rw [gmv_sl] at hi
    have main : ∀ k : Nat, k < s.sl.length → (slAt s.sl k).c.non = false → (-1 ≤ ren f t (slAt s.sl k).up ∧ (ren f t (slAt s.sl k).up < 0 ∨ cameOk (slAt s.sl k).c (slAt (gmvS s f t).sl (ren f t (slAt s.sl k).up).toNat).c = true)) := fun k hk hn => by
      refine ⟨ren_low (G.upLow hk), ?_⟩
      by_cases hu : (slAt s.sl k).up < 0
      · left
        rw [ren, if_neg (by omega)]
        exact hu
      · right
        obtain ⟨u1, u2, u3⟩ := G.upFull hk hn (by omega)
        obtain ⟨c1, c2⟩ := M.capAt u1 u2
        have e : (((slAt s.sl k).up.toNat : Nat) : Int) = (slAt s.sl k).up := by omega
        rw [e] at c1 c2
        rw [gmv_slAt c1, c2]
        exact u3
    rw [St.k6, gmv_slAt hi]
    simp only [Bool.or_eq_true, Bool.and_eq_true, decide_eq_true_eq]
    by_cases e1 : i = t
    · rw [mvSl, if_pos e1]
      exact .inr (main f M.src M.full)
    · rw [mvSl, if_neg e1]
      by_cases e2 : i = f
      · rw [if_pos e2]
        exact .inl rfl
      · rw [if_neg e2]
        by_cases h0 : (slAt s.sl i).c.non = true
        · left
          rw [non_ty h0]
          rfl
        · exact .inr (main i hi (by simpa using h0))
  · rw [gmv_th] at hi
    have hk := G.k7 i hi
    rw [St.k7, Bool.and_eq_true] at hk ⊢
    refine ⟨?_, ?_⟩
    · have h1 := hk.1
      rw [Bool.not_eq_true', Bool.and_eq_false_iff, Bool.and_eq_false_iff] at h1 ⊢
      rcases h1 with h1 | h1 | h1
      · left
        rw [gmv_thAt]
        exact h1
      · exact .inr (.inl h1)
      · refine .inr (.inr ?_)
        rw [List.isEmpty_eq_false_iff_exists_mem] at h1 ⊢
        obtain ⟨k, hk⟩ := h1
        obtain ⟨p1, p2, p3⟩ := mem_holdN.1 hk
        obtain ⟨c1, c2⟩ := M.capAt p1 (non_of_ty p2)
        exact ⟨_, mem_holdN.2 ⟨by rw [gmv_sl]; exact c1, by rw [gmv_slAt c1, c2]; exact p2, by rw [gmv_slAt c1, c2]; exact p3⟩⟩
    · rw [Bool.not_eq_true', Bool.and_eq_false_iff]
      exact .inr (ring_kept (s' := gmvS s f t) G (gmv_th s f t) (fun e h => M.edges G h ho) i)
end
end Go.Proofs.YtkpbfbmkolgmgaaGreat
