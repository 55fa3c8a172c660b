/-
  What carve makes, as plain data: a state behind it may be, too. Condition: the state may be, the plan's places and numbers fit it.
  What carve is asked to change, as plain data: which plan, which error. Condition: none.
  Own cells that are stored into. The walks of package carve's hasRoom, roomIn, Used, roomAt. Condition: the state and the steps lie in memory.
  A state of the call's own, in two blocks: its slots and things are stored into. Condition: none.
  The walk of package forest's Kids. Condition: the places lie in memory, at most a million.
  The walks of package carve's Used, roomAt, newThing. Condition: the state and the steps lie in memory.
  The walk of package carve's newThing. Condition: the state lies in memory.
  Structs of many cells stored and handed back whole. Condition: none.
-/
import Derived.Test.YtkpbfbmkolgmgaaGreatTB1
import Derived.Test.YtkpbfbmkolgmgaaGreatTA3
import Derived.BigRegion
import Derived.Deep.RegionLaw
import Derived.Deep.AppendLies
import Derived.Deep.MidRow
namespace Go.Proofs.YtkpbfbmkolgmgaaGreat
open Go.RowKit

/-- the thing of a slot's capability -/
def thOf (s : St) (k : Nat) : Nat := (slAt s.sl k).c.th.toNat
/-- all that a call will change -/
structure Pn where
  src : Nat
  dst : Nat
  used : Int
  num : Nat
  made : Tng
def usedAs (t : Tng) (u : Int) : Tng := { t with used := u }
def cdone (s : St) (p : Pn) : St := ⟨s.g, s.sl.set p.dst ⟨⟨p.made.ty, p.num, 7, 0⟩, p.src⟩, (s.th.set (thOf s p.src) (usedAs (thAt s.th (thOf s p.src)) p.used)).set p.num p.made⟩
/-- what a plan's places and numbers are -/
structure Mks (s : St) (p : Pn) : Prop where
  src : p.src < s.sl.length
  rm : (slAt s.sl p.src).c.ty = 1
  dst : p.dst < s.sl.length
  emp : (slAt s.sl p.dst).c.non = true
  own : (ownerN s.th (p.dst : Int)).isSome = true
  num : p.num < s.th.length
  fre : (thAt s.th p.num).ty = 0
  kind : 1 ≤ p.made.ty ∧ p.made.ty ≤ 5
  mgood : p.made.good = true
  mfrm : p.made.frm = 0
  gap : p.made.ty = 2 → ∀ k : Nat, p.made.base ≤ k → (k : Int) < p.made.base + tw2 p.made.bits → k < s.sl.length ∧ ownerN s.th (k : Int) = none
  u0 : 0 ≤ p.used
  us : p.used ≤ (thAt s.th (thOf s p.src)).size

theorem slAt_set {l : List Sl} {i : Nat} (hi : i < l.length) (x : Sl) (k : Nat) : slAt (l.set i x) k = if k = i then x else slAt l k := by
  by_cases e : k = i
  · subst e
    rw [if_pos rfl]
    exact slAt_at (List.getElem?_set_self hi)
  · rw [if_neg e, slAt, slAt, List.getD_eq_getElem?_getD, List.getD_eq_getElem?_getD, List.getElem?_set_ne (fun q => e q.symm)]
theorem thAt_set {l : List Tng} {i : Nat} (hi : i < l.length) (x : Tng) (k : Nat) : thAt (l.set i x) k = if k = i then x else thAt l k := by
  by_cases e : k = i
  · subst e
    rw [if_pos rfl]
    exact thAt_at (List.getElem?_set_self hi)
  · rw [if_neg e, thAt, thAt, List.getD_eq_getElem?_getD, List.getD_eq_getElem?_getD, List.getElem?_set_ne (fun q => e q.symm)]
theorem non_ty {c : Cp} (h : c.non = true) : c = Cp.none := Cp.eq_iff.1 h
/-- a full slot's capability -/
structure Fsl (s : St) (i : Nat) : Prop where
  kind : 1 ≤ (slAt s.sl i).c.ty ∧ (slAt s.sl i).c.ty ≤ 5
  th0 : 0 ≤ (slAt s.sl i).c.th
  th : thOf s i < s.th.length
  thty : (thAt s.th (thOf s i)).ty = (slAt s.sl i).c.ty
  own : (ownerN s.th (i : Int)).isSome = true
theorem Gst.fsl {s : St} (h : Gst s) {i : Nat} (hi : i < s.sl.length) (hf : (slAt s.sl i).c.ty ≠ 0) : Fsl s i := by
  have h4 := h.k4 i hi
  simp only [St.k4, Bool.and_eq_true, if_neg hf] at h4
  obtain ⟨hg, ht, ho⟩ := h4
  simp only [St.thing4, Bool.and_eq_true, decide_eq_true_eq, beq_iff_eq] at ht
  rcases good_iff_all.1 hg with ⟨h1, -⟩ | h1
  · exact absurd h1 hf
  · obtain ⟨k1, k2, k3, -⟩ := h1
    have k4 : 0 ≤ (slAt s.sl i).c.th := k3
    exact ⟨⟨k1, k2⟩, k3, by rw [thOf]; omega, ht.2, ho⟩
theorem Gst.emp {s : St} (h : Gst s) {i : Nat} (hi : i < s.sl.length) (hf : (slAt s.sl i).c.ty = 0) : (slAt s.sl i) = ⟨.none, -1⟩ := by
  have h4 := h.k4 i hi
  simp only [St.k4, Bool.and_eq_true, if_pos hf, beq_iff_eq] at h4
  obtain ⟨hg, hu⟩ := h4
  generalize slAt s.sl i = x at *
  obtain ⟨⟨a, b, c, d⟩, u⟩ := x
  simp only at hf hu
  rcases good_iff_all.1 hg with ⟨-, h2, h3, h4⟩ | h1
  · rw [hf, h2, h3, h4, hu]; rfl
  · omega
theorem hasS_ty {t : Tng} {z : Int} (h : t.ty ≠ 2) : t.hasS z = false := by
  rw [Bool.eq_false_iff]
  exact fun e => h (Tng.hasS_iff.1 e).1
theorem owner_not {s : St} {n : Nat} {z : Int} (h : (thAt s.th n).ty ≠ 2) {o : Nat} (ho : ownerN s.th z = some o) : o ≠ n := fun e => by
  subst e
  have := (ownerN_some.1 ho).2.1
  rw [hasS_ty h] at this
  cases this
/-! ### along more pairs: to a place from which nothing goes on -/
theorem rch_less {E F : List (Nat × Nat)} {n : Nat} (hno : ∀ e ∈ F, e.1 ≠ n) (hE : ∀ e ∈ F, e.2 ≠ n → e ∈ E) {x y : Nat} (h : Rch F x y) (hy : y ≠ n) : Rch E x y := by
  induction h with
  | self => exact .self
  | step h1 h2 ih => exact .step (ih (hno _ h2)) (hE _ h2 hy)

section
variable {s : St} {p : Pn} (G : Gst s) (M : Mks s p)
include G M
theorem Mks.room : thOf s p.src < s.th.length ∧ (thAt s.th (thOf s p.src)).ty = 1 ∧ thOf s p.src ≠ p.num ∧ p.src ≠ p.dst := by
  have h := G.fsl M.src (by rw [M.rm]; decide)
  refine ⟨h.th, h.thty.trans M.rm, fun e => ?_, fun e => ?_⟩
  · have h1 := h.thty
    rw [e, M.fre, M.rm] at h1
    cases h1
  · have h1 := non_ty M.emp
    rw [← e] at h1
    have h2 := M.rm
    rw [h1] at h2
    cases h2
theorem Mks.thIs (k : Nat) : thAt (cdone s p).th k = if k = p.num then p.made else if k = thOf s p.src then usedAs (thAt s.th k) p.used else thAt s.th k := by
  have h := M.room G
  rw [cdone, thAt_set (by rw [List.length_set]; exact M.num), thAt_set h.1]
  split
  · rfl
  · split
    · rename_i e
      rw [e]
    · rfl
omit G in
theorem Mks.slIs (k : Nat) : slAt (cdone s p).sl k = if k = p.dst then ⟨⟨p.made.ty, p.num, 7, 0⟩, p.src⟩ else slAt s.sl k := by
  rw [cdone, slAt_set M.dst]
omit G M in
theorem done_th : (cdone s p).th.length = s.th.length := by simp [cdone]
omit G M in
theorem done_sl : (cdone s p).sl.length = s.sl.length := by simp [cdone]
theorem Mks.toEmp : slAt s.sl p.dst = ⟨.none, -1⟩ := G.emp M.dst (by rw [non_ty M.emp]; rfl)
theorem Mks.tyIs (k : Nat) : (thAt (cdone s p).th k).ty = if k = p.num then p.made.ty else (thAt s.th k).ty := by
  rw [M.thIs G]
  split
  · rfl
  · split <;> rfl
theorem Mks.hasIs (k : Nat) (z : Int) : (thAt (cdone s p).th k).hasS z = if k = p.num then p.made.hasS z else (thAt s.th k).hasS z := by
  rw [M.thIs G]
  split
  · rfl
  · split
    · rename_i e
      subst e
      have h := (M.room G).2.1
      rw [hasS_ty (t := usedAs (thAt s.th (thOf s p.src)) p.used) (by show ¬ (thAt s.th (thOf s p.src)).ty = 2; omega), hasS_ty (by omega)]
    · rfl
omit G in
theorem Mks.notHas {z : Int} (h : (ownerN s.th z).isSome = true) : p.made.hasS z = false := by
  rw [Bool.eq_false_iff]
  intro e
  obtain ⟨h1, h2, h3⟩ := Tng.hasS_iff.1 e
  have hb : 0 ≤ p.made.base := (tng_good.1 M.mgood).small.base.1
  have := (M.gap h1 z.toNat (by omega) (by omega)).2
  rw [show ((z.toNat : Nat) : Int) = z by omega] at this
  rw [this] at h
  cases h
theorem Mks.owner {z : Int} {o : Nat} (h : ownerN s.th z = some o) : ownerN (cdone s p).th z = some o := by
  obtain ⟨h1, h2, h3⟩ := ownerN_some.1 h
  have hno := M.notHas (z := z) (by rw [h]; rfl)
  have hon : o ≠ p.num := owner_not (by rw [M.fre]; decide) h
  refine ownerN_some.2 ⟨by rw [done_th]; exact h1, by rw [M.hasIs G, if_neg hon]; exact h2, fun j hj => ?_⟩
  rw [M.hasIs G]
  split
  · exact hno
  · exact h3 j hj
theorem Mks.ownerOf {i : Nat} (hi : i < s.sl.length) (hf : (slAt (cdone s p).sl i).c.ty ≠ 0) : ∃ o, ownerN s.th i = some o ∧ ownerN (cdone s p).th i = some o := by
  have : (ownerN s.th i).isSome = true := by
    rw [M.slIs] at hf
    split at hf
    · rename_i e
      rw [e]
      exact M.own
    · exact (G.fsl hi hf).own
  obtain ⟨o, ho⟩ := Option.isSome_iff_exists.1 this
  exact ⟨o, ho, M.owner G ho⟩
theorem Mks.edges {e : Nat × Nat} (h : e ∈ edgesN (cdone s p).th (cdone s p).sl) : e.1 ≠ p.num ∧ e.2 < s.th.length ∧ (e.2 ≠ p.num → e ∈ edgesN s.th s.sl) := by
  obtain ⟨i, hi, h2, h3, h4⟩ := mem_edges.1 h
  rw [done_sl] at hi
  obtain ⟨o, ho, ho'⟩ := M.ownerOf G hi (by omega)
  obtain rfl : o = e.1 := by rw [ho'] at h3; exact Option.some.inj h3
  refine ⟨owner_not (by rw [M.fre]; decide) ho, ?_, fun hne => ?_⟩
  · rw [M.slIs] at h2 h4
    split at h4
    · rw [← h4]
      exact M.num
    · rename_i e0
      rw [if_neg e0] at h2
      rw [← h4]
      exact (G.fsl hi (by omega)).th
  · rw [M.slIs] at h2 h4
    split at h4
    · exact absurd h4.symm hne
    · rename_i e0
      rw [if_neg e0] at h2
      exact mem_edges.2 ⟨i, hi, h2, ho, h4⟩
omit M in
theorem Gst.edgeLt {e : Nat × Nat} (h : e ∈ edgesN s.th s.sl) : e.2 < s.th.length := by
  obtain ⟨i, hi, h2, -, h4⟩ := mem_edges.1 h
  rw [← h4]
  exact (G.fsl hi (by omega)).th
omit M in
theorem Gst.noRing {a : Nat} (ha : a < s.th.length) (h2 : (thAt s.th a).ty = 2) : ringN s a = false := by
  have := G.k7 a ha
  rw [St.k7, Bool.and_eq_true, decide_eq_true h2, Bool.true_and, Bool.not_eq_true'] at this
  simpa using this.2
theorem Mks.ring {a : Nat} (ha : a < s.th.length) (h2 : (thAt (cdone s p).th a).ty = 2) : ringN (cdone s p) a = false := by
  rw [Bool.eq_false_iff]
  intro e
  rw [ringN, List.any_eq_true] at e
  obtain ⟨⟨o, y⟩, h1, h3⟩ := e
  rw [Bool.and_eq_true, beq_iff_eq] at h3
  obtain ⟨rfl, h4⟩ := h3
  have hE := M.edges G h1
  simp only at hE h4
  have hlt : ∀ e ∈ edgesN (cdone s p).th (cdone s p).sl, e.2 < s.th.length := fun e h => (M.edges G h).2.1
  have hr := (krounds_reach hlt hE.2.1 o).1 (by rw [underN, done_th] at h4; exact h4)
  have hr2 : Rch (edgesN s.th s.sl) y o := rch_less (n := p.num) (fun e h => (M.edges G h).1) (fun e h => (M.edges G h).2.2) hr hE.1
  have hy : y ≠ p.num := fun e => by
    subst e
    have key : ∀ z, Rch (edgesN (cdone s p).th (cdone s p).sl) p.num z → z = p.num := by
      intro z hz
      induction hz with
      | self => rfl
      | step h5 h6 ih =>
        have := (M.edges G h6).1
        exact absurd ih this
    exact hE.1 (key o hr)
  have hmem := hE.2.2 hy
  rw [M.tyIs G, if_neg hE.1] at h2
  have hno := G.noRing ha h2
  have : ringN s o = true := by
    rw [ringN, List.any_eq_true]
    refine ⟨(o, y), hmem, ?_⟩
    rw [Bool.and_eq_true, beq_iff_eq]
    exact ⟨rfl, (krounds_reach (fun e h => G.edgeLt h) (G.edgeLt hmem) o).2 hr2⟩
  rw [this] at hno
  cases hno
omit G in
theorem Mks.ups : upsOf (cdone s p).sl = (upsOf s.sl).set p.dst (p.src : Int) := by
  rw [cdone, upsOf, upsOf, List.map_set]
  congr 1
  rw [upOf, if_neg]
  have := M.kind
  intro e
  have := congrArg Cp.ty (non_ty e)
  simp only [Cp.none] at this
  omega
theorem Mks.fos : Fo (upsOf s.sl) ∧ fu (upsOf s.sl) p.dst = -2 ∧ fu (upsOf s.sl) p.src ≠ -2 := by
  have hfo := fo_iff.1 G.k5
  have he := M.toEmp G
  refine ⟨hfo, ?_, ?_⟩
  · rw [fu_ups M.dst, he]; rfl
  · rw [fu_ups M.src, upOf]
    have h6 := G.k6 p.src M.src
    rw [St.k6, M.rm] at h6
    rw [if_neg (fun e => by have := congrArg Cp.ty (non_ty e); rw [M.rm] at this; cases this)]
    simp only [Bool.or_eq_true, Bool.and_eq_true, decide_eq_true_eq] at h6
    omega
theorem Mks.good : Gst (cdone s p) := by
  obtain ⟨r1, r2, r3, r4⟩ := M.room G
  have hlen := upsOf_length s.sl
  obtain ⟨hfo, fto, ffr⟩ := M.fos G
  have hups := M.ups
  have hkind := M.kind
  have hmnon : (Cp.mk p.made.ty p.num 7 0).non = false := by
    rw [Bool.eq_false_iff]
    intro e
    have := congrArg Cp.ty (non_ty e)
    simp only [Cp.none] at this
    omega
  refine ⟨?_, fun i hi => ?_, fun t ht => ?_, fun i hi => ?_, ?_, fun i hi => ?_, fun i hi => ?_⟩
  · have := G.k1
    rw [St.k1] at this ⊢
    rw [done_th, done_sl]
    exact this
  · rw [done_th] at hi
    have hk := G.k2 i hi
    simp only [St.k2, Bool.and_eq_true] at hk
    obtain ⟨h1, h2, h3, h4⟩ := hk
    have hfrom : ∀ t : Tng, s.from2 t = true → (cdone s p).from2 t = true := fun t h => by
      unfold St.from2 at h ⊢
      rw [Bool.not_eq_true', Bool.and_eq_false_iff, Bool.or_eq_false_iff] at h ⊢
      refine h.imp id fun q => ⟨q.1, ?_⟩
      rw [M.slIs]
      split
      · exact hmnon
      · exact q.2
    have hmeet : ∀ k, k < s.th.length → k ≠ p.num → p.made.meets (thAt s.th k) = false ∧ (thAt s.th k).meets p.made = false := fun k hk hkn => by
      have : ∀ z : Nat, p.made.ty = 2 → p.made.base ≤ z → (z : Int) < p.made.base + tw2 p.made.bits → (thAt s.th k).hasS z = false := fun z q1 q2 q3 => ownerN_none.1 (M.gap q1 z q2 q3).2 k hk
      have hb : 0 ≤ p.made.base := (tng_good.1 M.mgood).small.base.1
      have hb2 : 0 ≤ (thAt s.th k).base := (G.thok.small hk).base.1
      have w1 := tw2_pos p.made.bits
      have w2 := tw2_pos (thAt s.th k).bits
      have main : ¬ (p.made.ty = 2 ∧ (thAt s.th k).ty = 2 ∧ p.made.base < (thAt s.th k).base + tw2 (thAt s.th k).bits ∧ (thAt s.th k).base < p.made.base + tw2 p.made.bits) := by
        rintro ⟨q1, q2, q3, q4⟩
        rcases Int.le_total p.made.base (thAt s.th k).base with q | q
        · have q5 := this (thAt s.th k).base.toNat q1 (by omega) (by omega)
          rw [Bool.eq_false_iff] at q5
          exact q5 (Tng.hasS_iff.2 ⟨q2, by omega, by omega⟩)
        · have q5 := this p.made.base.toNat q1 (by omega) (by omega)
          rw [Bool.eq_false_iff] at q5
          exact q5 (Tng.hasS_iff.2 ⟨q2, by omega, by omega⟩)
      constructor
      · rw [Bool.eq_false_iff]
        intro q
        simp only [Tng.meets, Bool.and_eq_true, beq_iff_eq, decide_eq_true_eq] at q
        exact main ⟨q.1, q.2.1, q.2.2.1, q.2.2.2⟩
      · rw [Bool.eq_false_iff]
        intro q
        simp only [Tng.meets, Bool.and_eq_true, beq_iff_eq, decide_eq_true_eq] at q
        exact main ⟨q.2.1, q.1, q.2.2.2, q.2.2.1⟩
    have hroom : ∀ (t u : Tng), t.ty ≠ 2 → t.meets u = false ∧ u.meets t = false := fun t u ht => by
      constructor <;> rw [Bool.eq_false_iff] <;> intro q <;> simp only [Tng.meets, Bool.and_eq_true, beq_iff_eq, decide_eq_true_eq] at q
      · exact ht q.1
      · exact ht q.2.1
    have hgood : (thAt (cdone s p).th i).good = true := by
      rw [M.thIs G]
      split
      · exact M.mgood
      · split
        · rename_i e
          subst e
          have hu0 := M.u0
          have hus := M.us
          have hc := tng_good.1 h1
          refine tng_good.2 ?_
          generalize thAt s.th (thOf s p.src) = t at *
          cases hc <;> simp only [Tng.of] at r2 <;> try omega
          rename_i sz u g1 g2 g3 g4
          exact .room sz p.used g1 g2 hu0 hus
        · exact h1
    simp only [St.k2, Bool.and_eq_true]
    refine ⟨hgood, ?_, ?_, ?_⟩
    · rw [M.thIs G]
      split
      · unfold St.fits2
        rw [Bool.not_eq_true', Bool.and_eq_false_iff, decide_eq_false_iff_not]
        by_cases q : p.made.ty = 2
        · refine .inr ?_
          have w1 := tw2_pos p.made.bits
          have hb : 0 ≤ p.made.base := (tng_good.1 M.mgood).small.base.1
          have := (M.gap q (p.made.base + tw2 p.made.bits - 1).toNat (by omega) (by omega)).1
          have hl := G.lens
          show ¬ s.g.s < _
          omega
        · exact .inl (beq_eq_false_iff_ne.2 q)
      · split
        · exact h2
        · exact h2
    · rw [List.all_eq_true]
      intro k hk
      rw [List.mem_range] at hk
      have hkl : k < s.th.length := by omega
      have h3k := List.all_eq_true.1 h3 k (List.mem_range.2 hk)
      rw [Bool.not_eq_true'] at h3k ⊢
      by_cases e1 : i = p.num
      · rw [M.thIs G i, if_pos e1]
        have hkn : k ≠ p.num := by omega
        rw [M.thIs G k, if_neg hkn]
        split
        · rename_i e
          subst e
          exact (hroom (usedAs (thAt s.th (thOf s p.src)) p.used) p.made (by show (thAt s.th (thOf s p.src)).ty ≠ 2; omega)).2
        · exact (hmeet k hkl hkn).1
      · by_cases e2 : i = thOf s p.src
        · refine (hroom _ _ ?_).1
          rw [M.tyIs G, if_neg e1, e2]
          omega
        · rw [M.thIs G i, if_neg e1, if_neg e2, M.thIs G k]
          split
          · exact (hmeet i hi e1).2
          · split
            · rename_i e
              subst e
              exact (hroom (usedAs (thAt s.th (thOf s p.src)) p.used) (thAt s.th i) (by show (thAt s.th (thOf s p.src)).ty ≠ 2; omega)).2
            · exact h3k
    · rw [M.thIs G]
      split
      · rw [St.from2, M.mfrm]; rfl
      · split
        · exact hfrom (usedAs (thAt s.th i) p.used) h4
        · exact hfrom _ h4
  · have h3 := Tng.eq_iff.1 (G.k3 t ht)
    rw [St.k3, M.thIs G]
    have hr : (thAt s.th (2 + t)).ty = 2 := by rw [h3]; rfl
    rw [if_neg (fun e => by rw [e, M.fre] at hr; cases hr), if_neg (fun e => by rw [e, r2] at hr; cases hr), h3]
    exact Tng.eq_self _
  · rw [done_sl] at hi
    by_cases e : i = p.dst
    · subst e
      have hown : (ownerN (cdone s p).th (p.dst : Int)).isSome = true := by
        obtain ⟨o, ho⟩ := Option.isSome_iff_exists.1 M.own
        rw [M.owner G ho]
        rfl
      have hnum := M.num
      have hfew := G.few.2
      rw [St.k4, M.slIs, if_pos rfl]
      simp only [if_neg (show ¬ p.made.ty = 0 by omega), Bool.and_eq_true]
      refine ⟨good_iff_all.2 (.inr ⟨hkind.1, hkind.2, by omega, by omega, by omega, by omega, by omega, by omega, .inl rfl⟩), ?_, hown⟩
      simp only [St.thing4, Bool.and_eq_true, decide_eq_true_eq, beq_iff_eq, done_th, Int.toNat_natCast]
      exact ⟨by omega, by rw [M.tyIs G, if_pos rfl]⟩
    · have hk := G.k4 i hi
      rw [St.k4, M.slIs, if_neg e]
      by_cases h0 : (slAt s.sl i).c.ty = 0
      · rw [St.k4, if_pos h0] at hk
        rw [if_pos h0]
        exact hk
      · have hF := G.fsl hi h0
        simp only [St.k4, if_neg h0, Bool.and_eq_true] at hk ⊢
        refine ⟨hk.1, ?_, ?_⟩
        · have h5 := hk.2.1
          simp only [St.thing4, Bool.and_eq_true, decide_eq_true_eq, beq_iff_eq, done_th] at h5 ⊢
          refine ⟨h5.1, ?_⟩
          rw [M.tyIs G, if_neg (fun e => ?_)]
          · exact h5.2
          · have := hF.thty
            rw [thOf, e, M.fre] at this
            exact h0 this.symm
        · obtain ⟨o, ho⟩ := Option.isSome_iff_exists.1 hk.2.2
          rw [M.owner G ho]
          rfl
  · rw [St.k5, hups]
    refine fo_iff.2 (hfo.add (by rw [hlen]; exact M.dst) fto (.inr ?_))
    exact (there_at hfo p.src).2 ffr
  · rw [done_sl] at hi
    by_cases e : i = p.dst
    · subst e
      rw [St.k6, M.slIs, if_pos rfl]
      refine Bool.or_eq_true _ _ ▸ .inr ?_
      simp only [Bool.and_eq_true, Bool.or_eq_true, decide_eq_true_eq, Int.toNat_natCast]
      refine ⟨by omega, .inr ?_⟩
      rw [M.slIs, if_neg r4, cameOk, Bool.or_eq_true, Bool.and_eq_true, beq_iff_eq, Bool.not_eq_true', beq_eq_false_iff_ne]
      have hF := G.fsl M.src (by rw [M.rm]; decide)
      have h0 := hF.th0
      refine .inr ⟨M.rm, fun q => r3 ?_⟩
      simp only at q
      rw [thOf, q]
      simp
    · have hk := G.k6 i hi
      rw [St.k6, M.slIs, if_neg e]
      rw [St.k6] at hk
      simp only [Bool.or_eq_true, Bool.and_eq_true, decide_eq_true_eq] at hk ⊢
      by_cases h0 : (slAt s.sl i).c.ty = 0
      · exact .inl h0
      · obtain ⟨q1, q2⟩ := hk.resolve_left h0
        refine .inr ⟨q1, ?_⟩
        by_cases h1 : (slAt s.sl i).up < 0
        · exact .inl h1
        · have q3 := q2.resolve_left h1
          refine .inr ?_
          rw [M.slIs, if_neg]
          · exact q3
          · intro q
            have hu : fu (upsOf s.sl) i = ((slAt s.sl i).up.toNat : Nat) := by
              rw [fu_ups hi, upOf, if_neg (fun e => h0 (by rw [non_ty e]; rfl))]
              omega
            have := (hfo.up i _ hu).2
            rw [q] at this
            exact this fto
  · rw [done_th] at hi
    have hk := G.k7 i hi
    rw [St.k7, Bool.and_eq_true] at hk ⊢
    refine ⟨?_, ?_⟩
    · have h1 := hk.1
      rw [Bool.not_eq_true', Bool.and_eq_false_iff, Bool.and_eq_false_iff] at h1 ⊢
      by_cases e : i = p.num
      · refine .inr (.inr ?_)
        rw [List.isEmpty_eq_false_iff_exists_mem]
        refine ⟨p.dst, mem_holdN.2 ⟨by rw [done_sl]; exact M.dst, ?_, ?_⟩⟩ <;> rw [M.slIs, if_pos rfl]
        · show p.made.ty ≠ 0
          omega
        · show (p.num : Int) = i
          rw [e]
      · rw [M.tyIs G, if_neg e]
        rcases h1 with h1 | h1 | h1
        · exact .inl h1
        · exact .inr (.inl h1)
        · refine .inr (.inr ?_)
          rw [List.isEmpty_eq_false_iff_exists_mem] at h1 ⊢
          obtain ⟨k, hk⟩ := h1
          obtain ⟨q1, q2, q3⟩ := mem_holdN.1 hk
          have hkt : k ≠ p.dst := fun q => by
            rw [q, M.toEmp G] at q2
            exact q2 rfl
          exact ⟨k, mem_holdN.2 ⟨by rw [done_sl]; exact q1, by rw [M.slIs, if_neg hkt]; exact q2, by rw [M.slIs, if_neg hkt]; exact q3⟩⟩
    · rw [Bool.not_eq_true', Bool.and_eq_false_iff]
      by_cases h2 : (thAt (cdone s p).th i).ty = 2
      · exact .inr (M.ring G hi h2)
      · exact .inl (decide_eq_false h2)
end
end Go.Proofs.YtkpbfbmkolgmgaaGreat
namespace Go.Proofs.YtkpbfbmkolgmgaaGreat
open Go.RowKit

/-! ### plain data -/
def Pn.zero : Pn := ⟨0, 0, 0, 0, .zero⟩
/-! ### own cells that are stored into -/
structure Wbs (W w : World) (g : Nat) (cs : List Value) : Prop where
  bx : Bxs W w g cs
  free : ∀ j, w.frozen? ⟨g, j, none⟩ = false
theorem Wbs.more {W w : World} (h : Below W.heap.size W w) (cs : List Value) (t : TypeId) : Wbs W (w.alloc (.cells cs.toArray t)) w.heap.size cs :=
  ⟨Bxs.more h cs t, fun j => frozen_of_row _ _ j _ _ (heap_alloc_new w _)⟩
theorem Wbs.on {W w w' : World} {g : Nat} {cs : List Value} (h : Wbs W w g cs) (hb : Below w.heap.size w w') : Wbs W w' g cs :=
  ⟨h.bx.on hb, fun j => by rw [hb.frozen (p := ⟨g, j, none⟩) h.bx.lt]; exact h.free j⟩
theorem Wbs.put {W w : World} {g : Nat} {cs : List Value} (h : Wbs W w g cs) (i : Nat) (v : Value) : Wbs W (w.setCell ⟨g, i, none⟩ v) g (cs.set i v) := by
  have hlt := h.bx.lt
  refine ⟨⟨fun k u hk => ?_, h.bx.old.setCell h.bx.base _, h.bx.base, by simpa [World.setCell] using hlt⟩, fun j => by rw [World.frozen?_setCell]; exact h.free j⟩
  by_cases e : k = i
  · subst e
    by_cases hk2 : k < cs.length
    · rw [World.cell?_setCell_same _ _ _ (h.bx.c k _ (List.getElem?_eq_getElem hk2))]
      rw [List.getElem?_set_self hk2] at hk
      exact hk
    · rw [List.getElem?_eq_none (by simp; omega)] at hk
      cases hk
  · rw [World.cell?_setCell_other _ _ _ _ (fun q => e (by injection q with _ q; exact q.symm))]
    rw [List.getElem?_set_ne (fun q => e q.symm)] at hk
    exact h.bx.c k u hk
/-- one behind the other -/
def puts (w : World) (g : Nat) : Nat → List Value → World
  | _, [] => w
  | i, v :: vs => puts (w.setCell ⟨g, i, none⟩ v) g (i + 1) vs
theorem Wbs.putsAt {W : World} {g : Nat} : ∀ (vs : List Value) {w : World} {cs : List Value} (i : Nat), Wbs W w g cs → i + vs.length = cs.length → Wbs W (puts w g i vs) g (cs.take i ++ vs)
  | [], _, _, i, h, hl => by
    rw [puts, List.append_nil, List.take_of_length_le (by simp at hl; omega)]
    exact h
  | v :: vs, w, cs, i, h, hl => by
    rw [List.length_cons] at hl
    have := Wbs.putsAt vs (i + 1) (h.put i v) (by rw [List.length_set]; omega)
    rw [puts]
    rw [show (cs.set i v).take (i + 1) = cs.take i ++ [v] by
      rw [List.take_add_one, List.take_set_of_le (Nat.le_refl _), List.getElem?_set_self (by omega)]; rfl, List.append_assoc] at this
    exact this
theorem Wbs.puts {W w : World} {g : Nat} {cs vs : List Value} (h : Wbs W w g cs) (hl : cs.length = vs.length) : Wbs W (puts w g 0 vs) g vs := by
  simpa using h.putsAt vs 0 (by omega)
/-! ### hasRoom -/
/-! ### roomIn -/
end Go.Proofs.YtkpbfbmkolgmgaaGreat
namespace Go.Proofs.YtkpbfbmkolgmgaaGreat
open Go.RowKit

/-- a state of the call's own: its slots lie in P, its things in Q, both new since W -/
structure Ost (W w : World) (s : St) (P Q : Nat) : Prop where
  sl : ∀ j, j < s.sl.length → w.rangeAt P (j * 5) (slist (slAt s.sl j))
  th : ∀ j, j < s.th.length → w.rangeAt Q (j * 13) (thist (thAt s.th j))
  Pf : ∀ j, w.frozen? ⟨P, j, none⟩ = false
  Qf : ∀ j, w.frozen? ⟨Q, j, none⟩ = false
  PQ : P ≠ Q
  oP : W.heap.size ≤ P
  oQ : W.heap.size ≤ Q
  lP : P < w.heap.size
  lQ : Q < w.heap.size
  old : Below W.heap.size W w
theorem orange_slC {w : World} {b o : Nat} {x : Sl} (h : SlC w b o x) : w.rangeAt b o (slist x) := fun j v hv => by
  have hj : j < 5 := (List.getElem?_eq_some_iff.1 hv).1
  rcases j with _ | _ | _ | _ | _ | j
  · cases hv; exact h.c0
  · cases hv; exact h.c1
  · cases hv; exact h.c2
  · cases hv; exact h.c3
  · cases hv; exact h.c4
  · omega
theorem orange_thC {w : World} {b o : Nat} {x : Tng} (h : ThC w b o x) : w.rangeAt b o (thist x) := fun j v hv => by
  have hj : j < 13 := (List.getElem?_eq_some_iff.1 hv).1
  rcases j with _ | _ | _ | _ | _ | _ | _ | _ | _ | _ | _ | _ | _ | j
  · cases hv; exact h.c0
  · cases hv; exact h.c1
  · cases hv; exact h.c2
  · cases hv; exact h.c3
  · cases hv; exact h.c4
  · cases hv; exact h.c5
  · cases hv; exact h.c6
  · cases hv; exact h.c7
  · cases hv; exact h.c8
  · cases hv; exact h.c9
  · cases hv; exact h.c10
  · cases hv; exact h.c11
  · cases hv; exact h.c12
  · omega
theorem there_of_orange {w : World} {b o n : Nat} {cs : List Value} (h : w.rangeAt b o cs) (hn : cs.length = n) (hf : ∀ j, w.frozen? ⟨b, j, none⟩ = false) : w.there b o n := fun j hj =>
  ⟨by rw [h j _ (List.getElem?_eq_getElem (by omega))]; rfl, hf _⟩
theorem orange_set {w : World} {b o : Nat} {cs : List Value} (h : w.rangeAt b o cs) (k : Nat) (hk : k < cs.length) (v : Value) : (w.setCell ⟨b, o + k, none⟩ v).rangeAt b o (cs.set k v) := fun j x hx => by
  by_cases e : j = k
  · subst e
    rw [List.getElem?_set_self hk] at hx
    injection hx with hx
    subst hx
    exact World.cell?_setCell_same _ _ _ (h j _ (List.getElem?_eq_getElem hk))
  · rw [List.getElem?_set_ne (fun q => e q.symm)] at hx
    exact (World.cell?_setCell_other _ _ _ _ (fun q => by injection q with _ q; omega)).trans (h j x hx)
theorem Fsh.ost {W w : World} {s : St} {A C : Option Addr} (h : Fsh W w s A C) (hn : 0 < s.sl.length) (hm : 0 < s.th.length) (hb : Below W.heap.size W w) : ∃ P Q, A = some ⟨P, 0, none⟩ ∧ C = some ⟨Q, 0, none⟩ ∧ Ost W w s P Q := by
  obtain ⟨P, rfl, p1, p2, p3⟩ := h.sl hn
  obtain ⟨Q, rfl, q1, q2, q3⟩ := h.th hm
  refine ⟨P, Q, rfl, rfl, fun j hj => ?_, fun j hj => ?_, p3, q3, fun e => h.ne hn hm (by rw [e]), p1, q1, p2, q2, hb⟩
  · obtain ⟨b, o, e, _, hc⟩ := h.lies.sl hn
    injection e with e
    injection e with e1 e2
    subst e1 e2
    have := orange_slC (hc j hj)
    rwa [Nat.zero_add] at this
  · obtain ⟨b, o, e, _, hc⟩ := h.lies.th hm
    injection e with e
    injection e with e1 e2
    subst e1 e2
    have := orange_thC (hc j hj)
    rwa [Nat.zero_add] at this
section
variable {W w w' : World} {s : St} {P Q : Nat}
theorem Ost.lies (h : Ost W w s P Q) : StAt w s (some ⟨P, 0, none⟩) (some ⟨Q, 0, none⟩) :=
  ⟨fun _ => ⟨P, 0, rfl, h.lP, fun j hj => by
      have hr := h.sl j hj
      rw [Nat.zero_add]
      exact ⟨hr 0 _ rfl, hr 1 _ rfl, hr 2 _ rfl, hr 3 _ rfl, hr 4 _ rfl⟩⟩,
    fun _ => ⟨Q, 0, rfl, h.lQ, fun j hj => by
      have hr := h.th j hj
      rw [Nat.zero_add]
      exact ⟨hr 0 _ rfl, hr 1 _ rfl, hr 2 _ rfl, hr 3 _ rfl, hr 4 _ rfl, hr 5 _ rfl, hr 6 _ rfl, hr 7 _ rfl, hr 8 _ rfl, hr 9 _ rfl, hr 10 _ rfl, hr 11 _ rfl, hr 12 _ rfl⟩⟩⟩
theorem Ost.fsh (h : Ost W w s P Q) : Fsh W w s (some ⟨P, 0, none⟩) (some ⟨Q, 0, none⟩) :=
  ⟨h.lies, fun _ => ⟨P, rfl, h.oP, h.lP, h.Pf⟩, fun _ => ⟨Q, rfl, h.oQ, h.lQ, h.Qf⟩, fun _ _ e => h.PQ (by injection e with e; injection e)⟩
theorem Ost.step (h : Ost W w s P Q) {B : Nat} (f : Fnd w w' B) (h2 : P ≠ B) (h3 : Q ≠ B) (hb : Below W.heap.size W w') : Ost W w' s P Q :=
  ⟨fun j hj => f.range h.lP h2 (h.sl j hj), fun j hj => f.range h.lQ h3 (h.th j hj), fun j => (f.frozen h.lP h2).trans (h.Pf j), fun j => (f.frozen h.lQ h3).trans (h.Qf j),
   h.PQ, h.oP, h.oQ, Nat.lt_of_lt_of_le h.lP f.size, Nat.lt_of_lt_of_le h.lQ f.size, hb⟩
theorem Ost.on (h : Ost W w s P Q) (hb : Below w.heap.size w w') : Ost W w' s P Q := h.step (.of hb (P + Q + 1)) (by omega) (by omega) (below_on h.old hb)
/-- a block of the call's own beside it is stored into -/
theorem Ost.mark (h : Ost W w s P Q) {g i : Nat} {v : Value} (hP : P ≠ g) (hQ : Q ≠ g) (hg : W.heap.size ≤ g) : Ost W (w.setCell ⟨g, i, none⟩ v) s P Q := h.step (Fnd.mark _ _ _ _) hP hQ (h.old.setCell hg _)
theorem below_cells {W w : World} {b : Nat} (h : Below W.heap.size W w) (hb : W.heap.size ≤ b) : ∀ (vs : List Value) (o : Nat), Below W.heap.size W (w.setCells b o vs) := fun vs => by
  induction vs generalizing w with
  | nil => exact fun o => h
  | cons v vs ih => exact fun o => ih (h.setCell hb _) (o + 1)
theorem Ost.newS (h : Ost W w s P Q) {l : List Sl} (f : Fnd w w' P) (hf : ∀ j, w'.frozen? ⟨P, j, none⟩ = w.frozen? ⟨P, j, none⟩) (hl : l.length = s.sl.length) (hr : ∀ j, j < s.sl.length → w'.rangeAt P (j * 5) (slist (slAt l j))) (hb : Below W.heap.size W w') : Ost W w' ⟨s.g, l, s.th⟩ P Q :=
  ⟨fun j hj => hr j (by rw [← hl]; exact hj), fun j hj => f.range h.lQ h.PQ.symm (h.th j hj), fun j => (hf j).trans (h.Pf j), fun j => (f.frozen h.lQ h.PQ.symm).trans (h.Qf j),
   h.PQ, h.oP, h.oQ, Nat.lt_of_lt_of_le h.lP f.size, Nat.lt_of_lt_of_le h.lQ f.size, hb⟩
theorem Ost.newT (h : Ost W w s P Q) {l : List Tng} (f : Fnd w w' Q) (hf : ∀ j, w'.frozen? ⟨Q, j, none⟩ = w.frozen? ⟨Q, j, none⟩) (hl : l.length = s.th.length) (hr : ∀ j, j < s.th.length → w'.rangeAt Q (j * 13) (thist (thAt l j))) (hb : Below W.heap.size W w') : Ost W w' ⟨s.g, s.sl, l⟩ P Q :=
  ⟨fun j hj => f.range h.lP h.PQ (h.sl j hj), fun j hj => hr j (by rw [← hl]; exact hj), fun j => (f.frozen h.lP h.PQ).trans (h.Pf j), fun j => (hf j).trans (h.Qf j),
   h.PQ, h.oP, h.oQ, Nat.lt_of_lt_of_le h.lP f.size, Nat.lt_of_lt_of_le h.lQ f.size, hb⟩
theorem Ost.thereS (h : Ost W w s P Q) {i : Nat} (hi : i < s.sl.length) : w.there P (i * 5) 5 := there_of_orange (h.sl i hi) rfl h.Pf
theorem Ost.thereT (h : Ost W w s P Q) {i : Nat} (hi : i < s.th.length) : w.there Q (i * 13) 13 := there_of_orange (h.th i hi) rfl h.Qf
theorem Ost.putS (h : Ost W w s P Q) {i : Nat} (hi : i < s.sl.length) (y : Sl) : Ost W (w.setCells P (i * 5) (slist y)) ⟨s.g, s.sl.set i y, s.th⟩ P Q := by
  refine h.newS (Fnd.setCells P _ _ _) (fun j => World.frozen?_setCells ..) (by rw [List.length_set]) (fun j hj => ?_) (below_cells h.old h.oP _ _)
  by_cases e : j = i
  · subst e
    rw [slAt_at (List.getElem?_set_self hi)]
    exact World.rangeAt_setCells_same _ _ _ _ (h.thereS hi)
  · rw [slAt_at (x := slAt s.sl j) (by rw [List.getElem?_set_ne (fun q => e q.symm)]; exact slAt_get hj)]
    refine World.rangeAt_setCells_apart (h.sl j hj) _ _ _ (.inr ?_)
    show j * 5 + 5 ≤ i * 5 ∨ i * 5 + 5 ≤ j * 5
    omega
theorem Ost.putT (h : Ost W w s P Q) {i : Nat} (hi : i < s.th.length) (y : Tng) : Ost W (w.setCells Q (i * 13) (thist y)) ⟨s.g, s.sl, s.th.set i y⟩ P Q := by
  refine h.newT (Fnd.setCells Q _ _ _) (fun j => World.frozen?_setCells ..) (by rw [List.length_set]) (fun j hj => ?_) (below_cells h.old h.oQ _ _)
  by_cases e : j = i
  · subst e
    rw [thAt_at (List.getElem?_set_self hi)]
    exact World.rangeAt_setCells_same _ _ _ _ (h.thereT hi)
  · rw [thAt_at (x := thAt s.th j) (by rw [List.getElem?_set_ne (fun q => e q.symm)]; exact thAt_get hj)]
    refine World.rangeAt_setCells_apart (h.th j hj) _ _ _ (.inr ?_)
    show j * 13 + 13 ≤ i * 13 ∨ i * 13 + 13 ≤ j * 13
    omega
/-- one cell of a thing, of a slot -/
theorem Ost.putT1 (h : Ost W w s P Q) {i : Nat} (hi : i < s.th.length) (k : Nat) (hk : k < 13) (v : Value) (y : Tng) (hy : thist y = (thist (thAt s.th i)).set k v) : Ost W (w.setCell ⟨Q, i * 13 + k, none⟩ v) ⟨s.g, s.sl, s.th.set i y⟩ P Q := by
  refine h.newT (Fnd.mark _ _ _ _) (fun j => World.frozen?_setCell ..) (by rw [List.length_set]) (fun j hj => ?_) (h.old.setCell h.oQ _)
  by_cases e : j = i
  · subst e
    rw [thAt_at (List.getElem?_set_self hi), hy]
    exact orange_set (h.th j hj) k hk v
  · rw [thAt_at (x := thAt s.th j) (by rw [List.getElem?_set_ne (fun q => e q.symm)]; exact thAt_get hj)]
    refine World.rangeAt_setCells_apart (h.th j hj) Q (i * 13 + k) [v] (.inr ?_)
    show j * 13 + 13 ≤ i * 13 + k ∨ i * 13 + k + 1 ≤ j * 13
    omega
theorem Ost.putS1 (h : Ost W w s P Q) {i : Nat} (hi : i < s.sl.length) (k : Nat) (hk : k < 5) (v : Value) (y : Sl) (hy : slist y = (slist (slAt s.sl i)).set k v) : Ost W (w.setCell ⟨P, i * 5 + k, none⟩ v) ⟨s.g, s.sl.set i y, s.th⟩ P Q := by
  refine h.newS (Fnd.mark _ _ _ _) (fun j => World.frozen?_setCell ..) (by rw [List.length_set]) (fun j hj => ?_) (h.old.setCell h.oP _)
  by_cases e : j = i
  · subst e
    rw [slAt_at (List.getElem?_set_self hi), hy]
    exact orange_set (h.sl j hj) k hk v
  · rw [slAt_at (x := slAt s.sl j) (by rw [List.getElem?_set_ne (fun q => e q.symm)]; exact slAt_get hj)]
    refine World.rangeAt_setCells_apart (h.sl j hj) P (i * 5 + k) [v] (.inr ?_)
    show j * 5 + 5 ≤ i * 5 + k ∨ i * 5 + k + 1 ≤ j * 5
    omega
end
end Go.Proofs.YtkpbfbmkolgmgaaGreat
namespace Go.Proofs.YtkpbfbmkolgmgaaGreat
open Go.RowKit

theorem Bi.ints' {W w : World} {v : Value} {l : List Int} (h : Bi W w v l) : ∃ A cap, v = .slice A l.length cap ∧ l.length ≤ cap ∧ IntsAt w w.heap.size A l := by
  obtain ⟨A, cap, rfl, hi⟩ := h.ints
  refine ⟨A, cap, rfl, ?_, hi⟩
  rcases h.own.2 with ⟨e, h0⟩ | ⟨g, cap', cur, e, hb, hg, h1, h2, h3, h4⟩
  · omega
  · injection e with e1 e2 e3
    omega
theorem Bi.listF {W w w' : World} {v : Value} {l : List Int} (h : Bi W w' v l) (hb : Below w.heap.size w W) : ListF w w' (.returned v) l := by
  obtain ⟨A, cap, rfl, h1, h2⟩ := h.ints'
  exact ⟨A, cap, rfl, h1, h2, below_on hb h.old⟩
def PPickRel (W : World) (n : Nat) (p : Nat → Bool) (k : Nat) (v q : Value) (wr : World) : Prop :=
  ∃ i : Nat, k + i = n ∧ Bi W wr v (toInts (pick p i)) ∧ q = .int .i64 i

end Go.Proofs.YtkpbfbmkolgmgaaGreat
namespace Go.Proofs.YtkpbfbmkolgmgaaGreat
open Go.RowKit

/-! ### Used -/
/-! ### roomAt -/
theorem and_two {x : Int} (h : 0 ≤ x) (h7 : x ≤ 7) : (bits BinOp.and IntKind.i64 x 2 == 0) = !decide (x / 2 % 2 = 1) := by
  have : x = 0 ∨ x = 1 ∨ x = 2 ∨ x = 3 ∨ x = 4 ∨ x = 5 ∨ x = 6 ∨ x = 7 := by omega
  rcases this with rfl | rfl | rfl | rfl | rfl | rfl | rfl | rfl <;> rfl
theorem fcap_yes {s : St} {t x : Int} {cp : Cp} {l : List Int} (h : fcap s t l = (x, cp, 0)) : ∃ k : Nat, x = k ∧ k < s.sl.length ∧ sgood s = true ∧ (slAt s.sl k).c = cp ∧ cp.non = false := by
  unfold fcap at h
  split at h
  · rename_i h3
    obtain ⟨k, e, hk, hg⟩ := fslot_slot (x := (fslot s t l).1) (s := s) (t := t) (l := l) (Prod.ext rfl h3)
    split at h
    · obtain ⟨-, h⟩ := Prod.mk.inj h
      obtain ⟨-, h⟩ := Prod.mk.inj h
      cases h
    · rename_i h4
      obtain ⟨h5, h⟩ := Prod.mk.inj h
      obtain ⟨h6, -⟩ := Prod.mk.inj h
      rw [e, Int.toNat_natCast] at h4 h6
      exact ⟨k, by rw [← h5, e], hk, hg, h6, by rw [← h6]; simpa using h4⟩
  · rename_i h3
    obtain ⟨-, h⟩ := Prod.mk.inj h
    obtain ⟨-, h⟩ := Prod.mk.inj h
    exact absurd h h3
theorem Gst.capOk {s : St} (h : Gst s) {k : Nat} (hk : k < s.sl.length) : 0 ≤ (slAt s.sl k).c.ri ∧ (slAt s.sl k).c.ri ≤ 7 := by
  have h4 := h.k4 k hk
  rw [St.k4, Bool.and_eq_true] at h4
  obtain ⟨h4, -⟩ := h4
  generalize (slAt s.sl k).c = x at h4
  obtain ⟨a, b, d, f⟩ := x
  rcases good_iff_all.1 h4 with ⟨-, -, h3, -⟩ | ⟨-, -, -, -, h3, h5, -⟩
  · simp only; omega
  · exact ⟨h3, h5⟩
end Go.Proofs.YtkpbfbmkolgmgaaGreat
namespace Go.Proofs.YtkpbfbmkolgmgaaGreat
open Go.RowKit

end Go.Proofs.YtkpbfbmkolgmgaaGreat
namespace Go.Proofs.YtkpbfbmkolgmgaaGreat
open Go.RowKit

theorem puts_cells (g : Nat) : ∀ (vs : List Value) (w : World) (i : Nat), puts w g i vs = w.setCells g i vs
  | [], _, _ => rfl
  | v :: vs, w, i => puts_cells g vs (w.setCell ⟨g, i, none⟩ v) (i + 1)
theorem Wbs.there {W w : World} {g n : Nat} {cs : List Value} (h : Wbs W w g cs) (hn : cs.length = n) : w.there g 0 n := fun j hj =>
  ⟨by rw [Nat.zero_add, h.bx.c j _ (List.getElem?_eq_getElem (by omega))]; rfl, h.free _⟩
theorem Wbs.setCells {W w : World} {g : Nat} {cs vs : List Value} (h : Wbs W w g cs) (hl : cs.length = vs.length) : Wbs W (w.setCells g 0 vs) g vs := by
  rw [← puts_cells]
  exact h.puts hl
theorem Bxs.range {W w : World} {g : Nat} {cs : List Value} (h : Bxs W w g cs) : w.rangeAt g 0 cs := fun j v hv => by
  rw [Nat.zero_add]
  exact h.c j v hv
theorem Bxs.drew {W w : World} {g : Nat} {cs : List Value} (h : Bxs W w g cs) : Bxs W w.drew g cs := h.on (below_self w).drew
theorem results_ct {fn : Func} {c t : Tmp} {ty : TypeId} (h : fn.results = #[.cell c ty, .tmp t]) (tmps : Array Value) (P : Program) (w : World) {b : Nat} {cs : List Value} {d : TypeDesc} (hp : tmps.getD c undef = .pointer (some ⟨b, 0, none⟩))
    (hc : w.rangeAt b 0 cs) (hu : P.underlying ty = some d) (hd : d.isRow = true) (hi : (P.info? ty).map (·.size) = some cs.length) : (results fn tmps).run P w = .ok (.tuple #[.agg cs.toArray, tmps.getD t undef]) w := by
  have e := run_loadVar_mid w b 0 ty cs d hc hu hd hi
  have hp2 : tmps[c]?.getD undef = .pointer (some ⟨b, 0, none⟩) := by simpa using hp
  simp [results, h, hp2, asAddr, e]
theorem results_cc {fn : Func} {c c' : Tmp} {ty ty' : TypeId} (h : fn.results = #[.cell c ty, .cell c' ty']) (tmps : Array Value) (P : Program) (w : World) {b b' : Nat} {cs cs' : List Value} {d d' : TypeDesc} (hp : tmps.getD c undef = .pointer (some ⟨b, 0, none⟩))
    (hc : w.rangeAt b 0 cs) (hu : P.underlying ty = some d) (hd : d.isRow = true) (hi : (P.info? ty).map (·.size) = some cs.length) (hp' : tmps.getD c' undef = .pointer (some ⟨b', 0, none⟩))
    (hc' : w.rangeAt b' 0 cs') (hu' : P.underlying ty' = some d') (hd' : d'.isRow = true) (hi' : (P.info? ty').map (·.size) = some cs'.length) : (results fn tmps).run P w = .ok (.tuple #[.agg cs.toArray, .agg cs'.toArray]) w := by
  have e := run_loadVar_mid w b 0 ty cs d hc hu hd hi
  have e' := run_loadVar_mid w b' 0 ty' cs' d' hc' hu' hd' hi'
  have hp2 : tmps[c]?.getD undef = .pointer (some ⟨b, 0, none⟩) := by simpa using hp
  have hp3 : tmps[c']?.getD undef = .pointer (some ⟨b', 0, none⟩) := by simpa using hp'
  simp [results, h, hp2, hp3, asAddr, Sem.run_bind, e, e']
theorem info_thing : (Tryz.prog.info? 67).map (·.size) = some 13 := by kernel_rfl
theorem info_state : (Tryz.prog.info? 27).map (·.size) = some 5 := by kernel_rfl
theorem info_slot : (Tryz.prog.info? 64).map (·.size) = some 5 := by kernel_rfl
theorem info_reply : (Tryz.prog.info? 40).map (·.size) = some 3 := by kernel_rfl
theorem thing_one (a4 a5 a6 a7 a8 a9 a10 : Int) (f : Bool) (x0 x1 x2 x3 x4 : Int) : (#[.int .i64 a4, .int .i64 a5, .int .i64 a6, .int .i64 a7, .int .i64 a8, .int .i64 a9, .int .i64 a10, .bool f, .int .u64 x0, .int .u64 x1, .int .u64 x2, .int .u64 x3, .int .u64 x4] : Array Value).all (·.oneCell') = true := by
  simp [Value.oneCell']
theorem slot_one (a0 a1 a2 a3 a4 : Int) : (#[.int .i64 a0, .int .i64 a1, .int .i64 a2, .int .i64 a3, .int .i64 a4] : Array Value).all (·.oneCell') = true := by
  simp [Value.oneCell']
theorem state_one (a0 a1 a2 : Int) (A : Option Addr) (n ca : Nat) (C : Option Addr) (m cc : Nat) : (#[.int .i64 a0, .int .i64 a1, .int .i64 a2, .slice A n ca, .slice C m cc] : Array Value).all (·.oneCell') = true := by
  simp [Value.oneCell']
theorem reply_one (a0 x a2 : Int) : (#[.int .i64 a0, .int .u64 x, .int .i64 a2] : Array Value).all (·.oneCell') = true := by
  simp [Value.oneCell']
end Go.Proofs.YtkpbfbmkolgmgaaGreat
