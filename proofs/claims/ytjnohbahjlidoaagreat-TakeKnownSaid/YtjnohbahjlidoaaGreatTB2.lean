/-
  What carve makes, as plain data: a state behind it may be, too. Condition: the state may be, the plan's places and numbers fit it.
  What carve is asked to change, as plain data: which plan, which error. Condition: none.
  Own cells that are stored into. The walks of package carve's hasRoom, roomIn, Used, roomAt. Condition: the state and the steps lie in memory.
  A state of the call's own, in two blocks: its slots and things are stored into. Condition: none.
  The walk of package forest's Kids. Condition: the places lie in memory, at most a million.
  The walks of package carve's Used, roomAt, newThing. Condition: the state and the steps lie in memory.
  The walk of package carve's newThing. Condition: the state lies in memory.
  Structs of many cells stored and handed back whole. Condition: none.
-/
import Derived.Test.YtjnohbahjlidoaaGreatTB1
import Derived.Test.YtjnohbahjlidoaaGreatTA3
import Derived.BigRegion
import Derived.Deep.RegionLaw
import Derived.Deep.AppendLies
import Derived.Deep.MidRow
namespace Go.Proofs.YtjnohbahjlidoaaGreat
open Go.RowKit

/-- the thing of a slot's capability -/
def thOf (s : St) (k : Nat) : Nat := (slAt s.sl k).c.th.toNat
/-- all that a call will change -/
structure Pn where
  src : Nat
  dst : Nat
  used : Int
  num : Nat
  made : Tng
def usedAs (t : Tng) (u : Int) : Tng := { t with used := u }
def cdone (s : St) (p : Pn) : St := ⟨s.g, s.sl.set p.dst ⟨⟨p.made.ty, p.num, 7, 0⟩, p.src⟩, (s.th.set (thOf s p.src) (usedAs (thAt s.th (thOf s p.src)) p.used)).set p.num p.made⟩
/-- what a plan's places and numbers are -/
structure Mks (s : St) (p : Pn) : Prop where
  src : p.src < s.sl.length
  rm : (slAt s.sl p.src).c.ty = 1
  dst : p.dst < s.sl.length
  emp : (slAt s.sl p.dst).c.non = true
  own : (ownerN s.th (p.dst : Int)).isSome = true
  num : p.num < s.th.length
  fre : (thAt s.th p.num).ty = 0
  kind : 1 ≤ p.made.ty ∧ p.made.ty ≤ 5
  mgood : p.made.good = true
  mfrm : p.made.frm = 0
  gap : p.made.ty = 2 → ∀ k : Nat, p.made.base ≤ k → (k : Int) < p.made.base + tw2 p.made.bits → k < s.sl.length ∧ ownerN s.th (k : Int) = none
  u0 : 0 ≤ p.used
  us : p.used ≤ (thAt s.th (thOf s p.src)).size

theorem slAt_set {l : List Sl} {i : Nat} (hi : i < l.length) (x : Sl) (k : Nat) : slAt (l.set i x) k = if k = i then x else slAt l k := by
  by_cases e : k = i
  · subst e
    rw [if_pos rfl]
    exact slAt_at (List.getElem?_set_self hi)
  · rw [if_neg e, slAt, slAt, List.getD_eq_getElem?_getD, List.getD_eq_getElem?_getD, List.getElem?_set_ne (fun q => e q.symm)]
theorem thAt_set {l : List Tng} {i : Nat} (hi : i < l.length) (x : Tng) (k : Nat) : thAt (l.set i x) k = if k = i then x else thAt l k := by
  by_cases e : k = i
  · subst e
    rw [if_pos rfl]
    exact thAt_at (List.getElem?_set_self hi)
  · rw [if_neg e, thAt, thAt, List.getD_eq_getElem?_getD, List.getD_eq_getElem?_getD, List.getElem?_set_ne (fun q => e q.symm)]
theorem non_ty {c : Cp} (h : c.non = true) : c = Cp.none := Cp.eq_iff.1 h
/-- a full slot's capability -/
structure Fsl (s : St) (i : Nat) : Prop where
  kind : 1 ≤ (slAt s.sl i).c.ty ∧ (slAt s.sl i).c.ty ≤ 5
  th0 : 0 ≤ (slAt s.sl i).c.th
  th : thOf s i < s.th.length
  thty : (thAt s.th (thOf s i)).ty = (slAt s.sl i).c.ty
  own : (ownerN s.th (i : Int)).isSome = true
theorem Gst.fsl {s : St} (h : Gst s) {i : Nat} (hi : i < s.sl.length) (hf : (slAt s.sl i).c.ty ≠ 0) : Fsl s i := by
  have h4 := h.k4 i hi
  simp only [St.k4, Bool.and_eq_true, if_neg hf] at h4
  obtain ⟨hg, ht, ho⟩ := h4
  simp only [St.thing4, Bool.and_eq_true, decide_eq_true_eq, beq_iff_eq] at ht
  rcases good_iff_all.1 hg with ⟨h1, -⟩ | h1
  · exact absurd h1 hf
  · obtain ⟨k1, k2, k3, -⟩ := h1
    have k4 : 0 ≤ (slAt s.sl i).c.th := k3
    exact ⟨⟨k1, k2⟩, k3, by rw [thOf]; omega, ht.2, ho⟩
theorem Gst.emp {s : St} (h : Gst s) {i : Nat} (hi : i < s.sl.length) (hf : (slAt s.sl i).c.ty = 0) : (slAt s.sl i) = ⟨.none, -1⟩ := by
  have h4 := h.k4 i hi
  simp only [St.k4, Bool.and_eq_true, if_pos hf, beq_iff_eq] at h4
  obtain ⟨hg, hu⟩ := h4
  generalize slAt s.sl i = x at *
  obtain ⟨⟨a, b, c, d⟩, u⟩ := x
  simp only at hf hu
  rcases good_iff_all.1 hg with ⟨-, h2, h3, h4⟩ | h1
  · rw [hf, h2, h3, h4, hu]; rfl
  · omega
theorem hasS_ty {t : Tng} {z : Int} (h : t.ty ≠ 2) : t.hasS z = false := by
  rw [Bool.eq_false_iff]
  exact fun e => h (Tng.hasS_iff.1 e).1
theorem owner_not {s : St} {n : Nat} {z : Int} (h : (thAt s.th n).ty ≠ 2) {o : Nat} (ho : ownerN s.th z = some o) : o ≠ n := fun e => by
  subst e
  have := (ownerN_some.1 ho).2.1
  rw [hasS_ty h] at this
  cases this
/-! ### along more pairs: to a place from which nothing goes on -/
theorem rch_less {E F : List (Nat × Nat)} {n : Nat} (hno : ∀ e ∈ F, e.1 ≠ n) (hE : ∀ e ∈ F, e.2 ≠ n → e ∈ E) {x y : Nat} (h : Rch F x y) (hy : y ≠ n) : Rch E x y := by
  induction h with
  | self => exact .self
  | step h1 h2 ih => exact .step (ih (hno _ h2)) (hE _ h2 hy)

section
variable {s : St} {p : Pn} (G : Gst s) (M : Mks s p)
include G M
theorem Mks.room : thOf s p.src < s.th.length ∧ (thAt s.th (thOf s p.src)).ty = 1 ∧ thOf s p.src ≠ p.num ∧ p.src ≠ p.dst := by
  have h := G.fsl M.src (by rw [M.rm]; decide)
  refine ⟨h.th, h.thty.trans M.rm, fun e => ?_, fun e => ?_⟩
  · have h1 := h.thty
    rw [e, M.fre, M.rm] at h1
    cases h1
  · have h1 := non_ty M.emp
    rw [← e] at h1
    have h2 := M.rm
    rw [h1] at h2
    cases h2
theorem Mks.thIs (k : Nat) : thAt (cdone s p).th k = if k = p.num then p.made else if k = thOf s p.src then usedAs (thAt s.th k) p.used else thAt s.th k := by
  have h := M.room G
  rw [cdone, thAt_set (by rw [List.length_set]; exact M.num), thAt_set h.1]
  split
  · rfl
  · split
    · rename_i e
      rw [e]
    · rfl
omit G in
theorem Mks.slIs (k : Nat) : slAt (cdone s p).sl k = if k = p.dst then ⟨⟨p.made.ty, p.num, 7, 0⟩, p.src⟩ else slAt s.sl k := by
  rw [cdone, slAt_set M.dst]
omit G M in
theorem done_th : (cdone s p).th.length = s.th.length := by simp [cdone]
omit G M in
theorem done_sl : (cdone s p).sl.length = s.sl.length := by simp [cdone]
theorem Mks.toEmp : slAt s.sl p.dst = ⟨.none, -1⟩ := G.emp M.dst (by rw [non_ty M.emp]; rfl)
theorem Mks.tyIs (k : Nat) : (thAt (cdone s p).th k).ty = if k = p.num then p.made.ty else (thAt s.th k).ty := by
  rw [M.thIs G]
  split
  · rfl
  · split <;> rfl
theorem Mks.hasIs (k : Nat) (z : Int) : (thAt (cdone s p).th k).hasS z = if k = p.num then p.made.hasS z else (thAt s.th k).hasS z := by
  rw [M.thIs G]
  split
  · rfl
  · split
    · rename_i e
      subst e
      have h := (M.room G).2.1
      rw [hasS_ty (t := usedAs (thAt s.th (thOf s p.src)) p.used) (by show ¬ (thAt s.th (thOf s p.src)).ty = 2; omega), hasS_ty (by omega)]
    · rfl
omit G in
theorem Mks.notHas {z : Int} (h : (ownerN s.th z).isSome = true) : p.made.hasS z = false := by
  rw [Bool.eq_false_iff]
  intro e
  obtain ⟨h1, h2, h3⟩ := Tng.hasS_iff.1 e
  have hb : 0 ≤ p.made.base := (tng_good.1 M.mgood).small.base.1
  have := (M.gap h1 z.toNat (by omega) (by omega)).2
  rw [show ((z.toNat : Nat) : Int) = z by omega] at this
  rw [this] at h
  cases h
theorem Mks.owner {z : Int} {o : Nat} (h : ownerN s.th z = some o) : ownerN (cdone s p).th z = some o := by
  obtain ⟨h1, h2, h3⟩ := ownerN_some.1 h
  have hno := M.notHas (z := z) (by rw [h]; rfl)
  have hon : o ≠ p.num := owner_not (by rw [M.fre]; decide) h
  refine ownerN_some.2 ⟨by rw [done_th]; exact h1, by rw [M.hasIs G, if_neg hon]; exact h2, fun j hj => ?_⟩
  rw [M.hasIs G]
  split
  · exact hno
  · exact h3 j hj
theorem Mks.ownerOf {i : Nat} (hi : i < s.sl.length) (hf : (slAt (cdone s p).sl i).c.ty ≠ 0) : ∃ o, ownerN s.th i = some o ∧ ownerN (cdone s p).th i = some o := by
  have : (ownerN s.th i).isSome = true := by
    rw [M.slIs] at hf
    split at hf
    · rename_i e
      rw [e]
      exact M.own
    · exact (G.fsl hi hf).own
  obtain ⟨o, ho⟩ := Option.isSome_iff_exists.1 this
  exact ⟨o, ho, M.owner G ho⟩
theorem Mks.edges {e : Nat × Nat} (h : e ∈ edgesN (cdone s p).th (cdone s p).sl) : e.1 ≠ p.num ∧ e.2 < s.th.length ∧ (e.2 ≠ p.num → e ∈ edgesN s.th s.sl) := by
  obtain ⟨i, hi, h2, h3, h4⟩ := mem_edges.1 h
  rw [done_sl] at hi
  obtain ⟨o, ho, ho'⟩ := M.ownerOf G hi (by omega)
  obtain rfl : o = e.1 := by rw [ho'] at h3; exact Option.some.inj h3
  refine ⟨owner_not (by rw [M.fre]; decide) ho, ?_, fun hne => ?_⟩
  · rw [M.slIs] at h2 h4
    split at h4
    · rw [← h4]
      exact M.num
    · rename_i e0
      rw [if_neg e0] at h2
      rw [← h4]
      exact (G.fsl hi (by omega)).th
  · rw [M.slIs] at h2 h4
    split at h4
    · exact absurd h4.symm hne
    · rename_i e0
      rw [if_neg e0] at h2
      exact mem_edges.2 ⟨i, hi, h2, ho, h4⟩
omit M in
theorem Gst.edgeLt {e : Nat × Nat} (h : e ∈ edgesN s.th s.sl) : e.2 < s.th.length := by
  obtain ⟨i, hi, h2, -, h4⟩ := mem_edges.1 h
  rw [← h4]
  exact (G.fsl hi (by omega)).th
omit M in
theorem Gst.noRing {a : Nat} (ha : a < s.th.length) (h2 : (thAt s.th a).ty = 2) : ringN s a = false := by
  have := G.k7 a ha
  rw [St.k7, Bool.and_eq_true, decide_eq_true h2, Bool.true_and, Bool.not_eq_true'] at this
  simpa using this.2
theorem Mks.ring {a : Nat} (ha : a < s.th.length) (h2 : (thAt (cdone s p).th a).ty = 2) : ringN (cdone s p) a = false := by
  rw [Bool.eq_false_iff]
  intro e
  rw [ringN, List.any_eq_true] at e
  obtain ⟨⟨o, y⟩, h1, h3⟩ := e
  rw [Bool.and_eq_true, beq_iff_eq] at h3
  obtain ⟨rfl, h4⟩ := h3
  have hE := M.edges G h1
  simp only at hE h4
  have hlt : ∀ e ∈ edgesN (cdone s p).th (cdone s p).sl, e.2 < s.th.length := fun e h => (M.edges G h).2.1
  have hr := (krounds_reach hlt hE.2.1 o).1 (by rw [underN, done_th] at h4; exact h4)
  have hr2 : Rch (edgesN s.th s.sl) y o := rch_less (n := p.num) (fun e h => (M.edges G h).1) (fun e h => (M.edges G h).2.2) hr hE.1
  have hy : y ≠ p.num := fun e => by
    subst e
    have key : ∀ z, Rch (edgesN (cdone s p).th (cdone s p).sl) p.num z → z = p.num := by
      intro z hz
      induction hz with
      | self => rfl
      | step h5 h6 ih =>
        have := (M.edges G h6).1
        exact absurd ih this
    exact hE.1 (key o hr)
  have hmem := hE.2.2 hy
  rw [M.tyIs G, if_neg hE.1] at h2
  have hno := G.noRing ha h2
  have : ringN s o = true := by
    rw [ringN, List.any_eq_true]
    refine ⟨(o, y), hmem, ?_⟩
    rw [Bool.and_eq_true, beq_iff_eq]
    exact ⟨rfl, (krounds_reach (fun e h => G.edgeLt h) (G.edgeLt hmem) o).2 hr2⟩
  rw [this] at hno
  cases hno
omit G in
theorem Mks.ups : upsOf (cdone s p).sl = (upsOf s.sl).set p.dst (p.src : Int) := by
  rw [cdone, upsOf, upsOf, List.map_set]
  congr 1
  rw [upOf, if_neg]
  have := M.kind
  intro e
  have := congrArg Cp.ty (non_ty e)
  simp only [Cp.none] at this
  omega
theorem Mks.fos : Fo (upsOf s.sl) ∧ fu (upsOf s.sl) p.dst = -2 ∧ fu (upsOf s.sl) p.src ≠ -2 := by
  have hfo := fo_iff.1 G.k5
  have he := M.toEmp G
  refine ⟨hfo, ?_, ?_⟩
  · rw [fu_ups M.dst, he]; rfl
  · rw [fu_ups M.src, upOf]
    have h6 := G.k6 p.src M.src
    rw [St.k6, M.rm] at h6
    rw [if_neg (fun e => by have := congrArg Cp.ty (non_ty e); rw [M.rm] at this; cases this)]
    simp only [Bool.or_eq_true, Bool.and_eq_true, decide_eq_true_eq] at h6
    omega
theorem Mks.good : Gst (cdone s p) := by
  obtain ⟨r1, r2, r3, r4⟩ := M.room G
  have hlen := upsOf_length s.sl
  obtain ⟨hfo, fto, ffr⟩ := M.fos G
  have hups := M.ups
  have hkind := M.kind
  have hmnon : (Cp.mk p.made.ty p.num 7 0).non = false := by
    rw [Bool.eq_false_iff]
    intro e
    have := congrArg Cp.ty (non_ty e)
    simp only [Cp.none] at this
    omega
  refine ⟨?_, fun i hi => ?_, fun t ht => ?_, fun i hi => ?_, ?_, fun i hi => ?_, fun i hi => ?_⟩
  · have := G.k1
    rw [St.k1] at this ⊢
    rw [done_th, done_sl]
    exact this
  · rw [done_th] at hi
    have hk := G.k2 i hi
    simp only [St.k2, Bool.and_eq_true] at hk
    obtain ⟨h1, h2, h3, h4⟩ := hk
    have hfrom : ∀ t : Tng, s.from2 t = true → (cdone s p).from2 t = true := fun t h => by
      unfold St.from2 at h ⊢
      rw [Bool.not_eq_true', Bool.and_eq_false_iff, Bool.or_eq_false_iff] at h ⊢
      refine h.imp id fun q => ⟨q.1, ?_⟩
      rw [M.slIs]
      split
      · exact hmnon
      · exact q.2
    have hmeet : ∀ k, k < s.th.length → k ≠ p.num → p.made.meets (thAt s.th k) = false ∧ (thAt s.th k).meets p.made = false := fun k hk hkn => by
      have : ∀ z : Nat, p.made.ty = 2 → p.made.base ≤ z → (z : Int) < p.made.base + tw2 p.made.bits → (thAt s.th k).hasS z = false := fun z q1 q2 q3 => ownerN_none.1 (M.gap q1 z q2 q3).2 k hk
      have hb : 0 ≤ p.made.base := (tng_good.1 M.mgood).small.base.1
      have hb2 : 0 ≤ (thAt s.th k).base := (G.thok.small hk).base.1
      have w1 := tw2_pos p.made.bits
      have w2 := tw2_pos (thAt s.th k).bits
      have main : ¬ (p.made.ty = 2 ∧ (thAt s.th k).ty = 2 ∧ p.made.base < (thAt s.th k).base + tw2 (thAt s.th k).bits ∧ (thAt s.th k).base < p.made.base + tw2 p.made.bits) := by
        rintro ⟨q1, q2, q3, q4⟩
        rcases Int.le_total p.made.base (thAt s.th k).base with q | q
        · have q5 := this (thAt s.th k).base.toNat q1 (by omega) (by omega)
          rw [Bool.eq_false_iff] at q5
          exact q5 (Tng.hasS_iff.2 ⟨q2, by omega, by omega⟩)
        · have q5 := this p.made.base.toNat q1 (by omega) (by omega)
          rw [Bool.eq_false_iff] at q5
          exact q5 (Tng.hasS_iff.2 ⟨q2, by omega, by omega⟩)
      constructor
      · rw [Bool.eq_false_iff]
        intro q
        simp only [Tng.meets, Bool.and_eq_true, beq_iff_eq, decide_eq_true_eq] at q
        exact main ⟨q.1, q.2.1, q.2.2.1, q.2.2.2⟩
      · rw [Bool.eq_false_iff]
        intro q
        simp only [Tng.meets, Bool.and_eq_true, beq_iff_eq, decide_eq_true_eq] at q
        exact main ⟨q.2.1, q.1, q.2.2.2, q.2.2.1⟩
    have hroom : ∀ (t u : Tng), t.ty ≠ 2 → t.meets u = false ∧ u.meets t = false := fun t u ht => by
      constructor <;> rw [Bool.eq_false_iff] <;> intro q <;> simp only [Tng.meets, Bool.and_eq_true, beq_iff_eq, decide_eq_true_eq] at q
      · exact ht q.1
      · exact ht q.2.1
    have hgood : (thAt (cdone s p).th i).good = true := by
      rw [M.thIs G]
      split
      · exact M.mgood
      · split
        · rename_i e
          subst e
          have hu0 := M.u0
          have hus := M.us
          have hc := tng_good.1 h1
          refine tng_good.2 ?_
          generalize thAt s.th (thOf s p.src) = t at *
          cases hc <;> simp only [Tng.of] at r2 <;> try omega
          rename_i sz u g1 g2 g3 g4
          exact .room sz p.used g1 g2 hu0 hus
        · exact h1
    simp only [St.k2, Bool.and_eq_true]
    refine ⟨hgood, ?_, ?_, ?_⟩
    · rw [M.thIs G]
      split
      · unfold St.fits2
        rw [Bool.not_eq_true', Bool.and_eq_false_iff, decide_eq_false_iff_not]
        by_cases q : p.made.ty = 2
        · refine .inr ?_
          have w1 := tw2_pos p.made.bits
          have hb : 0 ≤ p.made.base := (tng_good.1 M.mgood).small.base.1
          have := (M.gap q (p.made.base + tw2 p.made.bits - 1).toNat (by omega) (by omega)).1
          have hl := G.lens
          show ¬ s.g.s < _
          omega
        · exact .inl (beq_eq_false_iff_ne.2 q)
      · split
        · exact h2
        · exact h2
    · rw [List.all_eq_true]
      intro k hk
      rw [List.mem_range] at hk
      have hkl : k < s.th.length := by omega
      have h3k := List.all_eq_true.1 h3 k (List.mem_range.2 hk)
      rw [Bool.not_eq_true'] at h3k ⊢
      by_cases e1 : i = p.num
      · rw [M.thIs G i, if_pos e1]
        have hkn : k ≠ p.num := by omega
        rw [M.thIs G k, if_neg hkn]
        split
        · rename_i e
          subst e
          exact (hroom (usedAs (thAt s.th (thOf s p.src)) p.used) p.made (by show (thAt s.th (thOf s p.src)).ty ≠ 2; omega)).2
        · exact (hmeet k hkl hkn).1
      · by_cases e2 : i = thOf s p.src
        · refine (hroom _ _ ?_).1
          rw [M.tyIs G, if_neg e1, e2]
          omega
        · rw [M.thIs G i, if_neg e1, if_neg e2, M.thIs G k]
          split
          · exact (hmeet i hi e1).2
          · split
            · rename_i e
              subst e
              exact (hroom (usedAs (thAt s.th (thOf s p.src)) p.used) (thAt s.th i) (by show (thAt s.th (thOf s p.src)).ty ≠ 2; omega)).2
            · exact h3k
    · rw [M.thIs G]
      split
      · rw [St.from2, M.mfrm]; rfl
      · split
        · exact hfrom (usedAs (thAt s.th i) p.used) h4
        · exact hfrom _ h4
  · have h3 := Tng.eq_iff.1 (G.k3 t ht)
    rw [St.k3, M.thIs G]
    have hr : (thAt s.th (2 + t)).ty = 2 := by rw [h3]; rfl
    rw [if_neg (fun e => by rw [e, M.fre] at hr; cases hr), if_neg (fun e => by rw [e, r2] at hr; cases hr), h3]
    exact Tng.eq_self _
  · rw [done_sl] at hi
    by_cases e : i = p.dst
    · subst e
      have hown : (ownerN (cdone s p).th (p.dst : Int)).isSome = true := by
        obtain ⟨o, ho⟩ := Option.isSome_iff_exists.1 M.own
        rw [M.owner G ho]
        rfl
      have hnum := M.num
      have hfew := G.few.2
      rw [St.k4, M.slIs, if_pos rfl]
      simp only [if_neg (show ¬ p.made.ty = 0 by omega), Bool.and_eq_true]
      refine ⟨good_iff_all.2 (.inr ⟨hkind.1, hkind.2, by omega, by omega, by omega, by omega, by omega, by omega, .inl rfl⟩), ?_, hown⟩
      simp only [St.thing4, Bool.and_eq_true, decide_eq_true_eq, beq_iff_eq, done_th, Int.toNat_natCast]
      exact ⟨by omega, by rw [M.tyIs G, if_pos rfl]⟩
    · have hk := G.k4 i hi
      rw [St.k4, M.slIs, if_neg e]
      by_cases h0 : (slAt s.sl i).c.ty = 0
      · rw [St.k4, if_pos h0] at hk
        rw [if_pos h0]
        exact hk
      · have hF := G.fsl hi h0
        simp only [St.k4, if_neg h0, Bool.and_eq_true] at hk ⊢
        refine ⟨hk.1, ?_, ?_⟩
        · have h5 := hk.2.1
          simp only [St.thing4, Bool.and_eq_true, decide_eq_true_eq, beq_iff_eq, done_th] at h5 ⊢
          refine ⟨h5.1, ?_⟩
          rw [M.tyIs G, if_neg (fun e => ?_)]
          · exact h5.2
          · have := hF.thty
            rw [thOf, e, M.fre] at this
            exact h0 this.symm
        · obtain ⟨o, ho⟩ := Option.isSome_iff_exists.1 hk.2.2
          rw [M.owner G ho]
          rfl
  · rw [St.k5, hups]
    refine fo_iff.2 (hfo.add (by rw [hlen]; exact M.dst) fto (.inr ?_))
    exact (there_at hfo p.src).2 ffr
  · rw [done_sl] at hi
    by_cases e : i = p.dst
    · subst e
      rw [St.k6, M.slIs, if_pos rfl]
      refine Bool.or_eq_true _ _ ▸ .inr ?_
      simp only [Bool.and_eq_true, Bool.or_eq_true, decide_eq_true_eq, Int.toNat_natCast]
      refine ⟨by omega, .inr ?_⟩
      rw [M.slIs, if_neg r4, cameOk, Bool.or_eq_true, Bool.and_eq_true, beq_iff_eq, Bool.not_eq_true', beq_eq_false_iff_ne]
      have hF := G.fsl M.src (by rw [M.rm]; decide)
      have h0 := hF.th0
      refine .inr ⟨M.rm, fun q => r3 ?_⟩
      simp only at q
      rw [thOf, q]
      simp
    · have hk := G.k6 i hi
      rw [St.k6, M.slIs, if_neg e]
      rw [St.k6] at hk
      simp only [Bool.or_eq_true, Bool.and_eq_true, decide_eq_true_eq] at hk ⊢
      by_cases h0 : (slAt s.sl i).c.ty = 0
      · exact .inl h0
      · obtain ⟨q1, q2⟩ := hk.resolve_left h0
        refine .inr ⟨q1, ?_⟩
        by_cases h1 : (slAt s.sl i).up < 0
        · exact .inl h1
        · have q3 := q2.resolve_left h1
          refine .inr ?_
          rw [M.slIs, if_neg]
          · exact q3
          · intro q
            have hu : fu (upsOf s.sl) i = ((slAt s.sl i).up.toNat : Nat) := by
              rw [fu_ups hi, upOf, if_neg (fun e => h0 (by rw [non_ty e]; rfl))]
              omega
            have := (hfo.up i _ hu).2
            rw [q] at this
            exact this fto
  · rw [done_th] at hi
    have hk := G.k7 i hi
    rw [St.k7, Bool.and_eq_true] at hk ⊢
    refine ⟨?_, ?_⟩
    · have h1 := hk.1
      rw [Bool.not_eq_true', Bool.and_eq_false_iff, Bool.and_eq_false_iff] at h1 ⊢
      by_cases e : i = p.num
      · refine .inr (.inr ?_)
        rw [List.isEmpty_eq_false_iff_exists_mem]
        refine ⟨p.dst, mem_holdN.2 ⟨by rw [done_sl]; exact M.dst, ?_, ?_⟩⟩ <;> rw [M.slIs, if_pos rfl]
        · show p.made.ty ≠ 0
          omega
        · show (p.num : Int) = i
          rw [e]
      · rw [M.tyIs G, if_neg e]
        rcases h1 with h1 | h1 | h1
        · exact .inl h1
        · exact .inr (.inl h1)
        · refine .inr (.inr ?_)
          rw [List.isEmpty_eq_false_iff_exists_mem] at h1 ⊢
          obtain ⟨k, hk⟩ := h1
          obtain ⟨q1, q2, q3⟩ := mem_holdN.1 hk
          have hkt : k ≠ p.dst := fun q => by
            rw [q, M.toEmp G] at q2
            exact q2 rfl
          exact ⟨k, mem_holdN.2 ⟨by rw [done_sl]; exact q1, by rw [M.slIs, if_neg hkt]; exact q2, by rw [M.slIs, if_neg hkt]; exact q3⟩⟩
    · rw [Bool.not_eq_true', Bool.and_eq_false_iff]
      by_cases h2 : (thAt (cdone s p).th i).ty = 2
      · exact .inr (M.ring G hi h2)
      · exact .inl (decide_eq_false h2)
end
end Go.Proofs.YtjnohbahjlidoaaGreat
namespace Go.Proofs.YtjnohbahjlidoaaGreat
open Go.RowKit

/-! ### plain data -/
def roomB (s : St) (k : Int) : Bool := decide (0 ≤ k) && (decide (k < s.sl.length) && decide ((slAt s.sl k.toNat).c.ty = 1))
/-- how much of a Room is used -/
def usedZ (s : St) (k : Int) : Int := if sgood s = true ∧ roomB s k = true ∧ fkids (upsOf s.sl) k ≠ [] then (thAt s.th (thOf s k.toNat)).used else 0
/-- the slot of a Room's capability that may be written, and the error -/
def croom (s : St) (t : Int) (l : List Int) : Int × Int :=
  if (fcap s t l).2.2 = 0 then (if (fcap s t l).2.1.ty = 1 then (if (fcap s t l).2.1.ri / 2 % 2 = 1 then ((fcap s t l).1, 0) else (0, 6)) else (0, 7)) else (0, (fcap s t l).2.2)
def cbase (s : St) (x y : Int) : Option Int := if x = 2 then (sgap s y).map (fun g : Nat => (g : Int)) else some 0
/-- a new thing's number and the thing -/
def cnum (s : St) (x y : Int) : Option (Nat × Tng) :=
  match cbase s x y with
  | none => none
  | some b => match sfree s with
    | none => none
    | some n => (tnew x y b).map fun t => (n, t)
def Pn.zero : Pn := ⟨0, 0, 0, 0, .zero⟩
def cplan (s : St) (t : Int) (c : Cl) : Pn × Int :=
  if c.op = 1 ∧ cgood c = true then
    (if (croom s t c.a).2 = 0 then
      (if (fempty s t c.b).2 = 0 then
        match tcost c.x c.y with
        | none => (.zero, 1)
        | some k => if usedZ s (croom s t c.a).1 + k ≤ (thAt s.th (thOf s (croom s t c.a).1.toNat)).size then
            (match cnum s c.x c.y with
            | none => (.zero, 8)
            | some (n, m) => (⟨(croom s t c.a).1.toNat, (fempty s t c.b).1.toNat, usedZ s (croom s t c.a).1 + k, n, m⟩, 0))
          else (.zero, 8)
      else (.zero, (fempty s t c.b).2))
    else (.zero, (croom s t c.a).2))
  else (.zero, 1)

theorem croom_slot {s : St} {t x : Int} {l : List Int} (h : croom s t l = (x, 0)) : ∃ k : Nat, x = k ∧ k < s.sl.length ∧ sgood s = true ∧ (slAt s.sl k).c.ty = 1 := by
  rw [croom] at h
  split at h
  · rename_i h1
    split at h
    · rename_i h2
      split at h
      · obtain ⟨rfl, -⟩ := Prod.mk.inj h
        unfold fcap at h1 h2 ⊢
        split at h1
        · rename_i h3
          split at h1
          · simp at h1
          · rename_i h4
            obtain ⟨k, e, hk, hg⟩ := fslot_slot (x := (fslot s t l).1) (s := s) (t := t) (l := l) (Prod.ext rfl h3)
            rw [if_pos h3, if_neg h4] at h2 ⊢
            rw [e] at h2
            simp only [Int.toNat_natCast] at h2
            exact ⟨k, e, hk, hg, h2⟩
        · rename_i h3
          exact absurd h1 h3
      · cases h
    · cases h
  · rename_i h1
    exact absurd (Prod.mk.inj h).2 h1

/-! ### own cells that are stored into -/
structure Wbs (W w : World) (g : Nat) (cs : List Value) : Prop where
  bx : Bxs W w g cs
  free : ∀ j, w.frozen? ⟨g, j, none⟩ = false
theorem Wbs.more {W w : World} (h : Below W.heap.size W w) (cs : List Value) (t : TypeId) : Wbs W (w.alloc (.cells cs.toArray t)) w.heap.size cs :=
  ⟨Bxs.more h cs t, fun j => frozen_of_row _ _ j _ _ (heap_alloc_new w _)⟩
theorem Wbs.on {W w w' : World} {g : Nat} {cs : List Value} (h : Wbs W w g cs) (hb : Below w.heap.size w w') : Wbs W w' g cs :=
  ⟨h.bx.on hb, fun j => by rw [hb.frozen (p := ⟨g, j, none⟩) h.bx.lt]; exact h.free j⟩
theorem Wbs.put {W w : World} {g : Nat} {cs : List Value} (h : Wbs W w g cs) (i : Nat) (v : Value) : Wbs W (w.setCell ⟨g, i, none⟩ v) g (cs.set i v) := by
  have hlt := h.bx.lt
  refine ⟨⟨fun k u hk => ?_, h.bx.old.setCell h.bx.base _, h.bx.base, by simpa [World.setCell] using hlt⟩, fun j => by rw [World.frozen?_setCell]; exact h.free j⟩
  by_cases e : k = i
  · subst e
    by_cases hk2 : k < cs.length
    · rw [World.cell?_setCell_same _ _ _ (h.bx.c k _ (List.getElem?_eq_getElem hk2))]
      rw [List.getElem?_set_self hk2] at hk
      exact hk
    · rw [List.getElem?_eq_none (by simp; omega)] at hk
      cases hk
  · rw [World.cell?_setCell_other _ _ _ _ (fun q => e (by injection q with _ q; exact q.symm))]
    rw [List.getElem?_set_ne (fun q => e q.symm)] at hk
    exact h.bx.c k u hk
/-- one behind the other -/
def puts (w : World) (g : Nat) : Nat → List Value → World
  | _, [] => w
  | i, v :: vs => puts (w.setCell ⟨g, i, none⟩ v) g (i + 1) vs
theorem Wbs.putsAt {W : World} {g : Nat} : ∀ (vs : List Value) {w : World} {cs : List Value} (i : Nat), Wbs W w g cs → i + vs.length = cs.length → Wbs W (puts w g i vs) g (cs.take i ++ vs)
  | [], _, _, i, h, hl => by
    rw [puts, List.append_nil, List.take_of_length_le (by simp at hl; omega)]
    exact h
  | v :: vs, w, cs, i, h, hl => by
    rw [List.length_cons] at hl
    have := Wbs.putsAt vs (i + 1) (h.put i v) (by rw [List.length_set]; omega)
    rw [puts]
    rw [show (cs.set i v).take (i + 1) = cs.take i ++ [v] by
      rw [List.take_add_one, List.take_set_of_le (Nat.le_refl _), List.getElem?_set_self (by omega)]; rfl, List.append_assoc] at this
    exact this
theorem Wbs.puts {W w : World} {g : Nat} {cs vs : List Value} (h : Wbs W w g cs) (hl : cs.length = vs.length) : Wbs W (puts w g 0 vs) g vs := by
  simpa using h.putsAt vs 0 (by omega)
/-! ### hasRoom -/
set_option maxHeartbeats 4000000 in
theorem hasroom_is {s : St} {a b c : Int} {A C : Option Addr} {n ca m cc : Nat} {k : Int} {r : Bool} {w : World} (hS : StH w s a b c A n ca C m cc) (hr : roomB s k = r) :
    Calls Tryz.prog 162 #[.agg #[.int .i64 a, .int .i64 b, .int .i64 c, .slice A n ca, .slice C m cc], .int .i64 k] w fun e w' => e = .returned (.bool r) ∧ Below w.heap.size w w' := by
  have k1 := Sbx.new w a b c A n ca C m cc 28
  have hn := hS.hn
  by_cases h0 : 0 ≤ k
  case neg =>
    have HR : Hid (r = false) := Lib.hid (by rw [← hr, roomB, decide_eq_false h0]; rfl)
    have h0' : decide (0 ≤ k) = false := decide_eq_false h0
    clear hr hS hn
    go_enter Tryz.func162, Tryz.ntmps162
    go_wp2_with fail
    generalize w.alloc _ = w0 at k1 ⊢
    obtain ⟨b0, b1, b2, c3, c4, old, -, lt⟩ := k1
    have HO := Lib.hid old
    clear old
    go_wp2
    go_ret
    exact ⟨by rw [HR.out]; rfl, HO.out⟩
  by_cases h1 : k < (n : Int)
  case neg =>
    have HR : Hid (r = false) := Lib.hid (by rw [← hr, roomB, decide_eq_true h0, decide_eq_false (p := k < _) (by omega)]; rfl)
    have h1' : decide (k < (n : Int)) = false := decide_eq_false h1
    clear hr hS hn
    go_enter Tryz.func162, Tryz.ntmps162
    go_wp2_with fail
    generalize w.alloc _ = w0 at k1 ⊢
    obtain ⟨b0, b1, b2, c3, c4, old, -, lt⟩ := k1
    have HO := Lib.hid old
    clear old
    go_wp2
    go_ret
    exact ⟨by rw [HR.out]; rfl, HO.out⟩
  obtain ⟨j, rfl⟩ : ∃ j : Nat, k = j := ⟨k.toNat, by omega⟩
  obtain ⟨sb, sp, rfl, hsb, hc⟩ := hS.lies.sl (by omega)
  have hT := hc j (by omega)
  rw [roomB, decide_eq_true h0, decide_eq_true (p := (j : Int) < _) (by omega), Bool.true_and, Bool.true_and, Int.toNat_natCast] at hr
  generalize slAt s.sl j = y at hT hr
  obtain ⟨⟨ty, th, ri, ba⟩, up⟩ := y
  obtain ⟨s0, -, -, -, -⟩ := hT
  simp only at s0 hr
  have e0 := k1.old.cell (p := ⟨sb, sp + j * 5, none⟩) hsb
  rw [s0] at e0
  have HR := Lib.hid hr
  clear hr hS hn hc hsb s0
  go_enter Tryz.func162, Tryz.ntmps162
  go_wp2_with fail
  generalize w.alloc _ = w0 at k1 e0 ⊢
  obtain ⟨b0, b1, b2, c3, c4, old, -, lt⟩ := k1
  have HO := Lib.hid old
  clear old
  go_wp2
  go_ret
  exact ⟨by rw [← HR.out]; rfl, HO.out⟩

/-! ### roomIn -/
set_option maxHeartbeats 4000000 in
theorem roomin_is {s : St} {a b c : Int} {A C : Option Addr} {n ca m cc : Nat} {k j : Nat} {t : Tng} {w : World} (hS : StH w s a b c A n ca C m cc) (hk : k < s.sl.length) (hth : (slAt s.sl k).c.th = (j : Int)) (hj : j < s.th.length) (ht : thAt s.th j = t) :
    Calls Tryz.prog 102 #[.agg #[.int .i64 a, .int .i64 b, .int .i64 c, .slice A n ca, .slice C m cc], .int .i64 (k : Int)] w fun e w' => e = .returned t.val ∧ Below w.heap.size w w' := by
  obtain ⟨sb, sp, rfl, hsb, hc⟩ := hS.lies.sl (by omega)
  obtain ⟨tb, tp, rfl, htb, hd⟩ := hS.lies.th (by omega)
  have s1 := (hc k hk).c1
  rw [hth] at s1
  have hD := hd j hj
  rw [ht] at hD
  have hn := hS.hn
  have hm := hS.hm
  have hk2 : (k : Int) < (n : Int) := by omega
  have hj2 : (j : Int) < (m : Int) := by omega
  have K1 := Sbx.new w a b c (some ⟨sb, sp, none⟩) n ca (some ⟨tb, tp, none⟩) m cc 28
  have R1 := Wbs.more K1.old (tcells .zero).toList 45
  rw [show (w.alloc (.cells #[.int .i64 a, .int .i64 b, .int .i64 c, .slice (some ⟨sb, sp, none⟩) n ca, .slice (some ⟨tb, tp, none⟩) m cc] 28)).heap.size = w.heap.size + 1 by simp] at R1
  have K2 := K1.on (below_alloc _ (.cells (tcells .zero).toList.toArray 45))
  have e1 := K2.old.cell (p := ⟨sb, sp + k * 5 + 1, none⟩) hsb
  rw [s1] at e1
  have hD2 : ThC ((w.alloc (.cells #[.int .i64 a, .int .i64 b, .int .i64 c, .slice (some ⟨sb, sp, none⟩) n ca, .slice (some ⟨tb, tp, none⟩) m cc] 28)).alloc (.cells (tcells .zero).toList.toArray 45)) tb (tp + j * 13) t := hD.same fun k => K2.old.cell (p := ⟨tb, k, none⟩) htb
  clear hS hc hd hD hk hj hn hm s1 hsb htb K1 hth ht
  obtain ⟨ty, bits, base, size, used, frm, badge, full, word, d0, d1, d2, d3⟩ := t
  unfold Tng.val
  go_enter Tryz.func102, Tryz.ntmps102
  go_wp2_with fail
  obtain ⟨g, hg⟩ : ∃ g, g = w.heap.size := ⟨_, rfl⟩
  obtain ⟨q, hq⟩ : ∃ q, q = g + 1 := ⟨_, rfl⟩
  rw [← hg] at K2 R1
  rw [← hq] at R1
  rw [← hg]
  try rw [← hq]
  clear hg hq
  have hw : ∀ w' : World, w'.alloc (.cells (tcells .zero).toList.toArray 45) = w'.alloc (.cells #[.int .i64 0, .int .i64 0, .int .i64 0, .int .i64 0, .int .i64 0, .int .i64 0, .int .i64 0, .bool false, .int .u64 0, .int .u64 0, .int .u64 0, .int .u64 0, .int .u64 0] 45) := fun _ => rfl
  rw [hw] at K2 R1 e1 hD2
  clear hw
  generalize (w.alloc _).alloc _ = w2 at K2 R1 e1 hD2 ⊢
  obtain ⟨b0, b1, b2, c3, c4, -, -, lt⟩ := K2
  obtain ⟨t0, t1, t2, t3, t4, t5, t6, t7, t8, t9, t10, t11, t12⟩ := hD2
  simp only at t0 t1 t2 t3 t4 t5 t6 t7 t8 t9 t10 t11 t12
  have HR := Lib.hid R1
  have r0 := R1.bx.c 0 _ rfl
  have r1 := R1.bx.c 1 _ rfl
  have r2 := R1.bx.c 2 _ rfl
  have r3 := R1.bx.c 3 _ rfl
  have r4 := R1.bx.c 4 _ rfl
  have r5 := R1.bx.c 5 _ rfl
  have r6 := R1.bx.c 6 _ rfl
  have r7 := R1.bx.c 7 _ rfl
  have r8 := R1.bx.c 8 _ rfl
  have r9 := R1.bx.c 9 _ rfl
  have r10 := R1.bx.c 10 _ rfl
  have r11 := R1.bx.c 11 _ rfl
  have r12 := R1.bx.c 12 _ rfl
  have f0 := R1.free 0
  have f1 := R1.free 1
  have f2 := R1.free 2
  have f3 := R1.free 3
  have f4 := R1.free 4
  have f5 := R1.free 5
  have f6 := R1.free 6
  have f7 := R1.free 7
  have f8 := R1.free 8
  have f9 := R1.free 9
  have f10 := R1.free 10
  have f11 := R1.free 11
  have f12 := R1.free 12
  clear R1
  go_region
  go_wp2
  have qq := HR.out.puts (vs := [.int .i64 ty, .int .i64 bits, .int .i64 base, .int .i64 size, .int .i64 used, .int .i64 frm, .int .i64 badge, .bool full, .int .u64 (word : Int), .int .u64 (d0 : Int), .int .u64 (d1 : Int), .int .u64 (d2 : Int), .int .u64 (d3 : Int)]) rfl
  have e0 := qq.bx.c 0 _ rfl
  have e1' := qq.bx.c 1 _ rfl
  have e2 := qq.bx.c 2 _ rfl
  have e3 := qq.bx.c 3 _ rfl
  have e4 := qq.bx.c 4 _ rfl
  have e5 := qq.bx.c 5 _ rfl
  have e6 := qq.bx.c 6 _ rfl
  have e7 := qq.bx.c 7 _ rfl
  have e8 := qq.bx.c 8 _ rfl
  have e9 := qq.bx.c 9 _ rfl
  have e10 := qq.bx.c 10 _ rfl
  have e11 := qq.bx.c 11 _ rfl
  have e12 := qq.bx.c 12 _ rfl
  simp only [puts] at e0 e1' e2 e3 e4 e5 e6 e7 e8 e9 e10 e11 e12
  refine bodyPost_ret (by simp [results, Tryz.results102, go_sem, e0, e1', e2, e3, e4, e5, e6, e7, e8, e9, e10, e11, e12]; rfl) rfl ?_
  exact ⟨rfl, qq.bx.old.drew⟩
end Go.Proofs.YtjnohbahjlidoaaGreat
namespace Go.Proofs.YtjnohbahjlidoaaGreat
open Go.RowKit

/-- a state of the call's own: its slots lie in P, its things in Q, both new since W -/
structure Ost (W w : World) (s : St) (P Q : Nat) : Prop where
  sl : ∀ j, j < s.sl.length → w.rangeAt P (j * 5) (slist (slAt s.sl j))
  th : ∀ j, j < s.th.length → w.rangeAt Q (j * 13) (thist (thAt s.th j))
  Pf : ∀ j, w.frozen? ⟨P, j, none⟩ = false
  Qf : ∀ j, w.frozen? ⟨Q, j, none⟩ = false
  PQ : P ≠ Q
  oP : W.heap.size ≤ P
  oQ : W.heap.size ≤ Q
  lP : P < w.heap.size
  lQ : Q < w.heap.size
  old : Below W.heap.size W w
theorem orange_slC {w : World} {b o : Nat} {x : Sl} (h : SlC w b o x) : w.rangeAt b o (slist x) := fun j v hv => by
  have hj : j < 5 := (List.getElem?_eq_some_iff.1 hv).1
  rcases j with _ | _ | _ | _ | _ | j
  · cases hv; exact h.c0
  · cases hv; exact h.c1
  · cases hv; exact h.c2
  · cases hv; exact h.c3
  · cases hv; exact h.c4
  · omega
theorem orange_thC {w : World} {b o : Nat} {x : Tng} (h : ThC w b o x) : w.rangeAt b o (thist x) := fun j v hv => by
  have hj : j < 13 := (List.getElem?_eq_some_iff.1 hv).1
  rcases j with _ | _ | _ | _ | _ | _ | _ | _ | _ | _ | _ | _ | _ | j
  · cases hv; exact h.c0
  · cases hv; exact h.c1
  · cases hv; exact h.c2
  · cases hv; exact h.c3
  · cases hv; exact h.c4
  · cases hv; exact h.c5
  · cases hv; exact h.c6
  · cases hv; exact h.c7
  · cases hv; exact h.c8
  · cases hv; exact h.c9
  · cases hv; exact h.c10
  · cases hv; exact h.c11
  · cases hv; exact h.c12
  · omega
theorem there_of_orange {w : World} {b o n : Nat} {cs : List Value} (h : w.rangeAt b o cs) (hn : cs.length = n) (hf : ∀ j, w.frozen? ⟨b, j, none⟩ = false) : w.there b o n := fun j hj =>
  ⟨by rw [h j _ (List.getElem?_eq_getElem (by omega))]; rfl, hf _⟩
theorem orange_set {w : World} {b o : Nat} {cs : List Value} (h : w.rangeAt b o cs) (k : Nat) (hk : k < cs.length) (v : Value) : (w.setCell ⟨b, o + k, none⟩ v).rangeAt b o (cs.set k v) := fun j x hx => by
  by_cases e : j = k
  · subst e
    rw [List.getElem?_set_self hk] at hx
    injection hx with hx
    subst hx
    exact World.cell?_setCell_same _ _ _ (h j _ (List.getElem?_eq_getElem hk))
  · rw [List.getElem?_set_ne (fun q => e q.symm)] at hx
    exact (World.cell?_setCell_other _ _ _ _ (fun q => by injection q with _ q; omega)).trans (h j x hx)
theorem Fsh.ost {W w : World} {s : St} {A C : Option Addr} (h : Fsh W w s A C) (hn : 0 < s.sl.length) (hm : 0 < s.th.length) (hb : Below W.heap.size W w) : ∃ P Q, A = some ⟨P, 0, none⟩ ∧ C = some ⟨Q, 0, none⟩ ∧ Ost W w s P Q := by
  obtain ⟨P, rfl, p1, p2, p3⟩ := h.sl hn
  obtain ⟨Q, rfl, q1, q2, q3⟩ := h.th hm
  refine ⟨P, Q, rfl, rfl, fun j hj => ?_, fun j hj => ?_, p3, q3, fun e => h.ne hn hm (by rw [e]), p1, q1, p2, q2, hb⟩
  · obtain ⟨b, o, e, _, hc⟩ := h.lies.sl hn
    injection e with e
    injection e with e1 e2
    subst e1 e2
    have := orange_slC (hc j hj)
    rwa [Nat.zero_add] at this
  · obtain ⟨b, o, e, _, hc⟩ := h.lies.th hm
    injection e with e
    injection e with e1 e2
    subst e1 e2
    have := orange_thC (hc j hj)
    rwa [Nat.zero_add] at this
section
variable {W w w' : World} {s : St} {P Q : Nat}
theorem Ost.lies (h : Ost W w s P Q) : StAt w s (some ⟨P, 0, none⟩) (some ⟨Q, 0, none⟩) :=
  ⟨fun _ => ⟨P, 0, rfl, h.lP, fun j hj => by
      have hr := h.sl j hj
      rw [Nat.zero_add]
      exact ⟨hr 0 _ rfl, hr 1 _ rfl, hr 2 _ rfl, hr 3 _ rfl, hr 4 _ rfl⟩⟩,
    fun _ => ⟨Q, 0, rfl, h.lQ, fun j hj => by
      have hr := h.th j hj
      rw [Nat.zero_add]
      exact ⟨hr 0 _ rfl, hr 1 _ rfl, hr 2 _ rfl, hr 3 _ rfl, hr 4 _ rfl, hr 5 _ rfl, hr 6 _ rfl, hr 7 _ rfl, hr 8 _ rfl, hr 9 _ rfl, hr 10 _ rfl, hr 11 _ rfl, hr 12 _ rfl⟩⟩⟩
theorem Ost.fsh (h : Ost W w s P Q) : Fsh W w s (some ⟨P, 0, none⟩) (some ⟨Q, 0, none⟩) :=
  ⟨h.lies, fun _ => ⟨P, rfl, h.oP, h.lP, h.Pf⟩, fun _ => ⟨Q, rfl, h.oQ, h.lQ, h.Qf⟩, fun _ _ e => h.PQ (by injection e with e; injection e)⟩
theorem Ost.step (h : Ost W w s P Q) {B : Nat} (f : Fnd w w' B) (h2 : P ≠ B) (h3 : Q ≠ B) (hb : Below W.heap.size W w') : Ost W w' s P Q :=
  ⟨fun j hj => f.range h.lP h2 (h.sl j hj), fun j hj => f.range h.lQ h3 (h.th j hj), fun j => (f.frozen h.lP h2).trans (h.Pf j), fun j => (f.frozen h.lQ h3).trans (h.Qf j),
   h.PQ, h.oP, h.oQ, Nat.lt_of_lt_of_le h.lP f.size, Nat.lt_of_lt_of_le h.lQ f.size, hb⟩
theorem Ost.on (h : Ost W w s P Q) (hb : Below w.heap.size w w') : Ost W w' s P Q := h.step (.of hb (P + Q + 1)) (by omega) (by omega) (below_on h.old hb)
/-- a block of the call's own beside it is stored into -/
theorem Ost.mark (h : Ost W w s P Q) {g i : Nat} {v : Value} (hP : P ≠ g) (hQ : Q ≠ g) (hg : W.heap.size ≤ g) : Ost W (w.setCell ⟨g, i, none⟩ v) s P Q := h.step (Fnd.mark _ _ _ _) hP hQ (h.old.setCell hg _)
theorem below_cells {W w : World} {b : Nat} (h : Below W.heap.size W w) (hb : W.heap.size ≤ b) : ∀ (vs : List Value) (o : Nat), Below W.heap.size W (w.setCells b o vs) := fun vs => by
  induction vs generalizing w with
  | nil => exact fun o => h
  | cons v vs ih => exact fun o => ih (h.setCell hb _) (o + 1)
theorem Ost.newS (h : Ost W w s P Q) {l : List Sl} (f : Fnd w w' P) (hf : ∀ j, w'.frozen? ⟨P, j, none⟩ = w.frozen? ⟨P, j, none⟩) (hl : l.length = s.sl.length) (hr : ∀ j, j < s.sl.length → w'.rangeAt P (j * 5) (slist (slAt l j))) (hb : Below W.heap.size W w') : Ost W w' ⟨s.g, l, s.th⟩ P Q :=
  ⟨fun j hj => hr j (by rw [← hl]; exact hj), fun j hj => f.range h.lQ h.PQ.symm (h.th j hj), fun j => (hf j).trans (h.Pf j), fun j => (f.frozen h.lQ h.PQ.symm).trans (h.Qf j),
   h.PQ, h.oP, h.oQ, Nat.lt_of_lt_of_le h.lP f.size, Nat.lt_of_lt_of_le h.lQ f.size, hb⟩
theorem Ost.newT (h : Ost W w s P Q) {l : List Tng} (f : Fnd w w' Q) (hf : ∀ j, w'.frozen? ⟨Q, j, none⟩ = w.frozen? ⟨Q, j, none⟩) (hl : l.length = s.th.length) (hr : ∀ j, j < s.th.length → w'.rangeAt Q (j * 13) (thist (thAt l j))) (hb : Below W.heap.size W w') : Ost W w' ⟨s.g, s.sl, l⟩ P Q :=
  ⟨fun j hj => f.range h.lP h.PQ (h.sl j hj), fun j hj => hr j (by rw [← hl]; exact hj), fun j => (f.frozen h.lP h.PQ).trans (h.Pf j), fun j => (hf j).trans (h.Qf j),
   h.PQ, h.oP, h.oQ, Nat.lt_of_lt_of_le h.lP f.size, Nat.lt_of_lt_of_le h.lQ f.size, hb⟩
theorem Ost.thereS (h : Ost W w s P Q) {i : Nat} (hi : i < s.sl.length) : w.there P (i * 5) 5 := there_of_orange (h.sl i hi) rfl h.Pf
theorem Ost.thereT (h : Ost W w s P Q) {i : Nat} (hi : i < s.th.length) : w.there Q (i * 13) 13 := there_of_orange (h.th i hi) rfl h.Qf
theorem Ost.putS (h : Ost W w s P Q) {i : Nat} (hi : i < s.sl.length) (y : Sl) : Ost W (w.setCells P (i * 5) (slist y)) ⟨s.g, s.sl.set i y, s.th⟩ P Q := by
  refine h.newS (Fnd.setCells P _ _ _) (fun j => World.frozen?_setCells ..) (by rw [List.length_set]) (fun j hj => ?_) (below_cells h.old h.oP _ _)
  by_cases e : j = i
  · subst e
    rw [slAt_at (List.getElem?_set_self hi)]
    exact World.rangeAt_setCells_same _ _ _ _ (h.thereS hi)
  · rw [slAt_at (x := slAt s.sl j) (by rw [List.getElem?_set_ne (fun q => e q.symm)]; exact slAt_get hj)]
    refine World.rangeAt_setCells_apart (h.sl j hj) _ _ _ (.inr ?_)
    show j * 5 + 5 ≤ i * 5 ∨ i * 5 + 5 ≤ j * 5
    omega
theorem Ost.putT (h : Ost W w s P Q) {i : Nat} (hi : i < s.th.length) (y : Tng) : Ost W (w.setCells Q (i * 13) (thist y)) ⟨s.g, s.sl, s.th.set i y⟩ P Q := by
  refine h.newT (Fnd.setCells Q _ _ _) (fun j => World.frozen?_setCells ..) (by rw [List.length_set]) (fun j hj => ?_) (below_cells h.old h.oQ _ _)
  by_cases e : j = i
  · subst e
    rw [thAt_at (List.getElem?_set_self hi)]
    exact World.rangeAt_setCells_same _ _ _ _ (h.thereT hi)
  · rw [thAt_at (x := thAt s.th j) (by rw [List.getElem?_set_ne (fun q => e q.symm)]; exact thAt_get hj)]
    refine World.rangeAt_setCells_apart (h.th j hj) _ _ _ (.inr ?_)
    show j * 13 + 13 ≤ i * 13 ∨ i * 13 + 13 ≤ j * 13
    omega
/-- one cell of a thing, of a slot -/
theorem Ost.putT1 (h : Ost W w s P Q) {i : Nat} (hi : i < s.th.length) (k : Nat) (hk : k < 13) (v : Value) (y : Tng) (hy : thist y = (thist (thAt s.th i)).set k v) : Ost W (w.setCell ⟨Q, i * 13 + k, none⟩ v) ⟨s.g, s.sl, s.th.set i y⟩ P Q := by
  refine h.newT (Fnd.mark _ _ _ _) (fun j => World.frozen?_setCell ..) (by rw [List.length_set]) (fun j hj => ?_) (h.old.setCell h.oQ _)
  by_cases e : j = i
  · subst e
    rw [thAt_at (List.getElem?_set_self hi), hy]
    exact orange_set (h.th j hj) k hk v
  · rw [thAt_at (x := thAt s.th j) (by rw [List.getElem?_set_ne (fun q => e q.symm)]; exact thAt_get hj)]
    refine World.rangeAt_setCells_apart (h.th j hj) Q (i * 13 + k) [v] (.inr ?_)
    show j * 13 + 13 ≤ i * 13 + k ∨ i * 13 + k + 1 ≤ j * 13
    omega
theorem Ost.putS1 (h : Ost W w s P Q) {i : Nat} (hi : i < s.sl.length) (k : Nat) (hk : k < 5) (v : Value) (y : Sl) (hy : slist y = (slist (slAt s.sl i)).set k v) : Ost W (w.setCell ⟨P, i * 5 + k, none⟩ v) ⟨s.g, s.sl.set i y, s.th⟩ P Q := by
  refine h.newS (Fnd.mark _ _ _ _) (fun j => World.frozen?_setCell ..) (by rw [List.length_set]) (fun j hj => ?_) (h.old.setCell h.oP _)
  by_cases e : j = i
  · subst e
    rw [slAt_at (List.getElem?_set_self hi), hy]
    exact orange_set (h.sl j hj) k hk v
  · rw [slAt_at (x := slAt s.sl j) (by rw [List.getElem?_set_ne (fun q => e q.symm)]; exact slAt_get hj)]
    refine World.rangeAt_setCells_apart (h.sl j hj) P (i * 5 + k) [v] (.inr ?_)
    show j * 5 + 5 ≤ i * 5 + k ∨ i * 5 + k + 1 ≤ j * 5
    omega
end
end Go.Proofs.YtjnohbahjlidoaaGreat
namespace Go.Proofs.YtjnohbahjlidoaaGreat
open Go.RowKit

theorem Bi.ints' {W w : World} {v : Value} {l : List Int} (h : Bi W w v l) : ∃ A cap, v = .slice A l.length cap ∧ l.length ≤ cap ∧ IntsAt w w.heap.size A l := by
  obtain ⟨A, cap, rfl, hi⟩ := h.ints
  refine ⟨A, cap, rfl, ?_, hi⟩
  rcases h.own.2 with ⟨e, h0⟩ | ⟨g, cap', cur, e, hb, hg, h1, h2, h3, h4⟩
  · omega
  · injection e with e1 e2 e3
    omega
theorem Bi.listF {W w w' : World} {v : Value} {l : List Int} (h : Bi W w' v l) (hb : Below w.heap.size w W) : ListF w w' (.returned v) l := by
  obtain ⟨A, cap, rfl, h1, h2⟩ := h.ints'
  exact ⟨A, cap, rfl, h1, h2, below_on hb h.old⟩
theorem nil_listF {w w' : World} (hb : Below w.heap.size w w') : ListF w w' (.returned (.slice none 0 0)) [] := ⟨none, 0, rfl, Nat.le_refl _, none_at _, hb⟩

def PPickRel (W : World) (n : Nat) (p : Nat → Bool) (k : Nat) (v q : Value) (wr : World) : Prop :=
  ∃ i : Nat, k + i = n ∧ Bi W wr v (toInts (pick p i)) ∧ q = .int .i64 i

set_option maxHeartbeats 2000000 in
theorem pkids_is {A : Option Addr} {n cap : Nat} {l L : List Int} {i : Int} {w : World} (hn : n = l.length) (hn6 : n ≤ 1000000) (hL : IntsAt w w.heap.size A l) (hr : fkids l i = L) :
    Calls Tryz.prog 163 #[.agg #[.slice A n cap], .int .i64 i] w fun e w' => ListF w w' e L := by
  have HN := Lib.hid hn
  have HL := Lib.hid hL
  have HR := Lib.hid hr
  have H6 := Lib.hid hn6
  have hK := Pbx.new w (.slice A n cap) 81
  have c0 := hK.c
  clear hn hL hr hn6
  go_enter Tryz.func163, Tryz.ntmps163
  go_wp2_with fail
  generalize w.alloc (.cells #[.slice A n cap] 81) = w1 at hK c0 ⊢
  rcases ht : there l i with _ | _
  · refine (holds_is (w := w1) HN.out (HL.out.on hK.old) ht).mono ?_
    rintro e w2 ⟨rfl, hb⟩
    have HO := Lib.hid (hK.on hb).old
    have HE : Hid (L = []) := Lib.hid (by rw [← HR.out, fkids, ht]; rfl)
    clear hb ht hK c0
    go_wp2
    go_ret
    rw [HE.out]
    exact nil_listF HO.out
  obtain ⟨_, m, rfl, hm, _⟩ := there_iff.1 ht
  refine (holds_is (w := w1) HN.out (HL.out.on hK.old) ht).mono ?_
  rintro e w2 ⟨rfl, hb⟩
  have K := Lib.hid (hK.on hb)
  have HE : Hid (L = toInts (pick (fun k => decide (fu l k = (m : Int))) n)) := Lib.hid (by rw [← HR.out, fkids, if_pos ht, Int.toNat_natCast, kidsN, pick, HN.out])
  have H0 : Hid (Bi w2 w2 (.slice none 0 0) []) := Lib.hid ⟨World.ownsRow_nil _ _ _ _, Below.refl _ _⟩
  have HM := Lib.hid hm
  clear hK c0 hb hm ht
  have c0 := K.out.c
  go_wp2_with fail
  clear c0
  go_loopg [5, 15] n (fun k p q wr => PPickRel w2 n (fun k => decide (fu l k = (m : Int))) k p q wr)
  case atStart => exact ⟨0, by omega, H0.out, rfl⟩
  case round =>
    obtain ⟨i, hk, hb, rfl⟩ := hrel
    have HK := Lib.hid hk
    clear hk H0
    have c0 := (K.out.on hb.old).c
    by_cases hlt : i < n
    · have HLT := Lib.hid hlt
      have hlt2 : (i : Int) < (n : Int) := by omega
      have HB1 := Lib.hid hb
      clear hb
      obtain ⟨b, o, rfl, hblk, hc⟩ := at_open HL.out (by rw [← HN.out]; omega)
      have c1 : wr.cell? ⟨b, o + i, none⟩ = some (.int .i64 (fu l i)) := by
        rw [(K.out.on HB1.out.old).old.cell (p := ⟨b, _, none⟩) hblk]
        exact hc i (by rw [← HN.out]; exact hlt)
      obtain ⟨x, hx⟩ : ∃ x, fu l i = x := ⟨_, rfl⟩
      rw [hx] at c1
      by_cases hxm : x = (m : Int)
      · have HP : Hid (toInts (pick (fun k => decide (fu l k = (m : Int))) (i + 1)) = toInts (pick (fun k => decide (fu l k = (m : Int))) i) ++ [(i : Int)]) := Lib.hid (by rw [pick_yes (by simp [hx, hxm]), toInts_append]; rfl)
        have hq : (toInts (pick (fun k => decide (fu l k = (m : Int))) i)).length ≤ 1000000 := by rw [toInts_length]; have := pick_len (fun k => decide (fu l k = (m : Int))) i; have := H6.out; omega
        obtain ⟨u, hu⟩ : ∃ u, u = toInts (pick (fun k => decide (fu l k = (m : Int))) i) := ⟨_, rfl⟩
        rw [← hu] at HB1 HP hq
        subst hxm
        have HB2 := Lib.hid (HB1.out.alloc (.cells #[.int .i64 (i : Int)] 3))
        have HNEW := Lib.hid (one_new wr i)
        have HSZ : Hid (w2.heap.size ≤ (wr.alloc (.cells #[.int .i64 (i : Int)] 3)).heap.size) := Lib.hid HB2.out.old.size
        obtain ⟨i0, hii, hz0, hz1, hz2⟩ := info3_parts
        have HONE := Lib.hid (one_plain i)
        clear hu hc hblk hx HB1
        go_wp2_with (at_builtin; refine wpList_append_own _ rfl _ _ 36 rfl w2.heap.size 3 i0 (.int .i64 0) 1 8 Tryz.underlying36 hii hz0 hz1 hz2 rfl (by decide) _ _ _ rfl HB2.out.own ⟨wr.heap.size, 0, none⟩ 1 1 [.int .i64 i] rfl rfl HNEW.out HONE.out ?c3 ?c4 HSZ.out ?_)
        case c3 => unfold maxLen; omega
        case c4 => omega
        intro v' w4 hown hgrow _
        have HB3 := Lib.hid (HB2.out.more (l' := toInts (pick (fun k => decide (fu l k = (m : Int))) (i + 1))) hgrow (by rw [HP.out, icells_append, List.length_append]; exact hown))
        clear hown hgrow HB2 HNEW HSZ HONE hq
        go_wp2
        go_roundg (n - (i + 1))
        case measure => have := HK.out; have := HLT.out; omega
        case rel => exact ⟨i + 1, by have := HLT.out; omega, HB3.out, (by refine congrArg _ ?_; have := H6.out; have := HLT.out; first | rfl | (unfold wrap64; omega))⟩
      · have HP : Hid (toInts (pick (fun k => decide (fu l k = (m : Int))) (i + 1)) = toInts (pick (fun k => decide (fu l k = (m : Int))) i)) := Lib.hid (by rw [pick_no (by simp [hx, hxm])])
        have h3 : (x == (m : Int)) = false := by simp [hxm]
        clear hc hblk hx
        go_wp2
        go_roundg (n - (i + 1))
        case measure => have := HK.out; have := HLT.out; omega
        case rel => exact ⟨i + 1, by have := HLT.out; omega, by rw [HP.out]; exact HB1.out, (by refine congrArg _ ?_; have := H6.out; have := HLT.out; first | rfl | (unfold wrap64; omega))⟩
    · have hin : i = n := by have := HK.out; omega
      subst hin
      rw [← HE.out] at hb
      have HB := Lib.hid hb
      have hlt2 : ¬ (i : Int) < (i : Int) := by omega
      clear hb hlt
      go_wp2
      go_ret
      exact HB.out.listF K.out.old

end Go.Proofs.YtjnohbahjlidoaaGreat
namespace Go.Proofs.YtjnohbahjlidoaaGreat
open Go.RowKit

/-! ### Used -/
theorem field_used (ty bits base size used frm badge : Int) (full : Bool) (word d0 d1 d2 d3 : Nat) (w : World) : (Instr.field 45 (.agg #[.int .i64 ty, .int .i64 bits, .int .i64 base, .int .i64 size, .int .i64 used, .int .i64 frm, .int .i64 badge, .bool full, .int .u64 (word : Int), .int .u64 (d0 : Int), .int .u64 (d1 : Int), .int .u64 (d2 : Int), .int .u64 (d3 : Int)]) 4).run Tryz.prog w = .ok (.int .i64 used) w := by kernel_rfl
theorem field_size (ty bits base size used frm badge : Int) (full : Bool) (word d0 d1 d2 d3 : Nat) (w : World) : (Instr.field 45 (.agg #[.int .i64 ty, .int .i64 bits, .int .i64 base, .int .i64 size, .int .i64 used, .int .i64 frm, .int .i64 badge, .bool full, .int .u64 (word : Int), .int .u64 (d0 : Int), .int .u64 (d1 : Int), .int .u64 (d2 : Int), .int .u64 (d3 : Int)]) 3).run Tryz.prog w = .ok (.int .i64 size) w := by kernel_rfl
set_option maxRecDepth 100000 in
set_option maxHeartbeats 4000000 in
theorem used_is {s : St} {a b c : Int} {A C : Option Addr} {n ca m cc : Nat} {k r : Int} {w : World} (hS : StH w s a b c A n ca C m cc) (hr : usedZ s k = r) :
    Calls Tryz.prog 101 #[.agg #[.int .i64 a, .int .i64 b, .int .i64 c, .slice A n ca, .slice C m cc], .int .i64 k] w fun e w' => e = .returned (.int .i64 r) ∧ Below w.heap.size w w' := by
  have HS := Lib.hid hS
  have k1 := Sbx.new w a b c A n ca C m cc 28
  obtain ⟨z1, h1⟩ : ∃ z, sgood s = z := ⟨_, rfl⟩
  obtain ⟨z2, h2⟩ : ∃ z, roomB s k = z := ⟨_, rfl⟩
  have H1 := Lib.hid h1
  have H2 := Lib.hid h2
  have HR := Lib.hid hr
  clear hr hS h1 h2
  go_enter Tryz.func101, Tryz.ntmps101
  go_wp2_with fail
  generalize w.alloc _ = w0 at k1 ⊢
  have K0 := Lib.hid k1
  obtain ⟨b0, b1, b2, c3, c4, -, -, lt⟩ := k1
  go_wp2_with fail
  refine (sgood_is (HS.out.on K0.out.old) H1.out).mono ?_
  rintro e w1 ⟨rfl, hb⟩
  have K1 := Lib.hid (K0.out.on hb)
  clear hb K0 b0 b1 b2 c3 c4 lt
  cases z1 with
  | false =>
    have HF : Hid (r = 0) := Lib.hid (by rw [← HR.out, usedZ, if_neg (fun q => by rw [H1.out] at q; cases q.1)])
    go_wp2
    go_ret
    exact ⟨by rw [HF.out]; rfl, K1.out.old⟩
  | true =>
  obtain ⟨b0, b1, b2, c3, c4, -, -, lt⟩ := K1.out
  go_wp2_with fail
  refine (hasroom_is (HS.out.on K1.out.old) H2.out).mono ?_
  rintro e w2 ⟨rfl, hb⟩
  have K2 := Lib.hid (K1.out.on hb)
  clear hb K1 b0 b1 b2 c3 c4 lt
  cases z2 with
  | false =>
    have HF : Hid (r = 0) := Lib.hid (by rw [← HR.out, usedZ, if_neg (fun q => by rw [H2.out] at q; cases q.2.1)])
    go_wp2
    go_ret
    exact ⟨by rw [HF.out]; rfl, K2.out.old⟩
  | true =>
  obtain ⟨b0, b1, b2, c3, c4, -, -, lt⟩ := K2.out
  go_wp2_with fail
  refine (pforest_is (HS.out.on K2.out.old) rfl).mono ?_
  rintro e w3 ⟨B, cb, rfl, hcb, hI, hb⟩
  have K3 := Lib.hid (K2.out.on hb)
  have HI := Lib.hid hI
  obtain ⟨q, hq⟩ : ∃ q, q = (upsOf s.sl).length := ⟨_, rfl⟩
  have HQ := Lib.hid hq
  have HQ6 : Hid (q ≤ 1000000) := Lib.hid (by have := upsOf_length s.sl; have := HS.out.hn; have := HS.out.few; omega)
  rw [← hq]
  clear hb hI hcb hq K2 b0 b1 b2 c3 c4 lt
  go_wp2_with fail
  refine (pkids_is HQ.out HQ6.out HI.out rfl).mono ?_
  rintro e w4 ⟨B2, cb2, rfl, hcb, hI, hb⟩
  have K4 := Lib.hid (K3.out.on hb)
  clear hb hI hcb K3
  obtain ⟨v, hv⟩ : ∃ v, v = (fkids (upsOf s.sl) k).length := ⟨_, rfl⟩
  rw [← hv]
  by_cases hE : v = 0
  · have HF : Hid (r = 0) := Lib.hid (by rw [← HR.out, usedZ, if_neg (fun q => q.2.2 (List.eq_nil_of_length_eq_zero (hv.symm.trans hE)))])
    subst hE
    clear hv
    go_wp2
    go_ret
    exact ⟨by rw [HF.out]; rfl, K4.out.old⟩
  · have hne : fkids (upsOf s.sl) k ≠ [] := fun q => hE (by rw [hv, q]; rfl)
    have h2 := H2.out
    simp only [roomB, Bool.and_eq_true, decide_eq_true_eq] at h2
    obtain ⟨i, rfl⟩ : ∃ i : Nat, k = i := ⟨k.toNat, by omega⟩
    rw [Int.toNat_natCast] at h2
    have hF := (sgood_iff.1 H1.out).fsl (i := i) (by omega) (by rw [h2.2.2]; decide)
    have HF : Hid (r = (thAt s.th (thOf s i)).used) := Lib.hid (by rw [← HR.out, usedZ, if_pos ⟨H1.out, H2.out, hne⟩, Int.toNat_natCast])
    have HIL : Hid (i < s.sl.length) := Lib.hid (by omega)
    have HTH : Hid ((slAt s.sl i).c.th = (thOf s i : Nat)) := Lib.hid (by have := hF.th0; rw [thOf]; omega)
    have HTL := Lib.hid hF.th
    have hv1 : ¬ (v : Int) = 0 := by omega
    have hv2 : ((v : Int) == 0) = false := by simpa using hE
    obtain ⟨b0, b1, b2, c3, c4, -, -, lt⟩ := K4.out
    clear h2 hF hv hE hne
    go_wp2_with fail
    refine (roomin_is (HS.out.on K4.out.old) HIL.out HTH.out HTL.out rfl).mono ?_
    rintro e w5 ⟨rfl, hb⟩
    have K5 := Lib.hid (K4.out.on hb)
    have HFF := HF.out
    generalize thAt s.th (thOf s i) = t at HFF ⊢
    have HF2 := Lib.hid HFF
    obtain ⟨ty, bits, base, size, used, frm, badge, full, word, d0, d1, d2, d3⟩ := t
    unfold Tng.val
    have hfu := field_used ty bits base size used frm badge full word d0 d1 d2 d3
    clear hb K4 b0 b1 b2 c3 c4 lt HFF HF
    go_wp2
    go_ret
    exact ⟨by rw [HF2.out]; rfl, K5.out.old⟩

/-! ### roomAt -/
theorem and_two {x : Int} (h : 0 ≤ x) (h7 : x ≤ 7) : (bits BinOp.and IntKind.i64 x 2 == 0) = !decide (x / 2 % 2 = 1) := by
  have : x = 0 ∨ x = 1 ∨ x = 2 ∨ x = 3 ∨ x = 4 ∨ x = 5 ∨ x = 6 ∨ x = 7 := by omega
  rcases this with rfl | rfl | rfl | rfl | rfl | rfl | rfl | rfl <;> rfl
theorem fcap_yes {s : St} {t x : Int} {cp : Cp} {l : List Int} (h : fcap s t l = (x, cp, 0)) : ∃ k : Nat, x = k ∧ k < s.sl.length ∧ sgood s = true ∧ (slAt s.sl k).c = cp ∧ cp.non = false := by
  unfold fcap at h
  split at h
  · rename_i h3
    obtain ⟨k, e, hk, hg⟩ := fslot_slot (x := (fslot s t l).1) (s := s) (t := t) (l := l) (Prod.ext rfl h3)
    split at h
    · obtain ⟨-, h⟩ := Prod.mk.inj h
      obtain ⟨-, h⟩ := Prod.mk.inj h
      cases h
    · rename_i h4
      obtain ⟨h5, h⟩ := Prod.mk.inj h
      obtain ⟨h6, -⟩ := Prod.mk.inj h
      rw [e, Int.toNat_natCast] at h4 h6
      exact ⟨k, by rw [← h5, e], hk, hg, h6, by rw [← h6]; simpa using h4⟩
  · rename_i h3
    obtain ⟨-, h⟩ := Prod.mk.inj h
    obtain ⟨-, h⟩ := Prod.mk.inj h
    exact absurd h h3
theorem Gst.capOk {s : St} (h : Gst s) {k : Nat} (hk : k < s.sl.length) : 0 ≤ (slAt s.sl k).c.ri ∧ (slAt s.sl k).c.ri ≤ 7 := by
  have h4 := h.k4 k hk
  rw [St.k4, Bool.and_eq_true] at h4
  obtain ⟨h4, -⟩ := h4
  generalize (slAt s.sl k).c = x at h4
  obtain ⟨a, b, d, f⟩ := x
  rcases good_iff_all.1 h4 with ⟨-, -, h3, -⟩ | ⟨-, -, -, -, h3, h5, -⟩
  · simp only; omega
  · exact ⟨h3, h5⟩
set_option maxRecDepth 100000 in
set_option maxHeartbeats 4000000 in
theorem roomat_is {s : St} {a b c : Int} {A C : Option Addr} {n ca m cc : Nat} {t x y : Int} {B : Option Addr} {q cap : Nat} {l : List Int} {w : World} (hS : StH w s a b c A n ca C m cc) (hq : q = l.length) (hcap : q ≤ cap) (hL : IntsAt w w.heap.size B l) (hr : croom s t l = (x, y)) :
    Calls Tryz.prog 99 #[.agg #[.int .i64 a, .int .i64 b, .int .i64 c, .slice A n ca, .slice C m cc], .int .i64 t, .agg #[.slice B q cap]] w fun e w' => e = .returned (.tuple #[.int .i64 x, .int .i64 y]) ∧ Below w.heap.size w w' := by
  have k1 := (Sbx.new w a b c A n ca C m cc 28).on (below_alloc _ (.cells #[.slice B q cap] 38))
  have p1 : ((w.alloc (.cells #[.int .i64 a, .int .i64 b, .int .i64 c, .slice A n ca, .slice C m cc] 28)).alloc (.cells #[.slice B q cap] 38)).cell? ⟨w.heap.size + 1, 0, none⟩ = some (.slice B q cap) := by simp
  have HS := Lib.hid hS
  have HQ := Lib.hid hq
  have HCAP := Lib.hid hcap
  have HL := Lib.hid hL
  obtain ⟨x1, cp, y1, hf⟩ : ∃ x1 cp y1, fcap s t l = (x1, cp, y1) := ⟨_, _, _, rfl⟩
  have HF := Lib.hid hf
  have HR : Hid ((if y1 = 0 then (if cp.ty = 1 then (if cp.ri / 2 % 2 = 1 then (x1, 0) else (0, 6)) else (0, 7)) else (0, y1)) = (x, y)) := Lib.hid (by rw [← hr, croom, hf])
  clear hr hS hq hcap hL hf
  go_enter Tryz.func99, Tryz.ntmps99
  go_wp2_with fail
  obtain ⟨pb, hpb⟩ : ∃ pb, pb = w.heap.size + 1 := ⟨_, rfl⟩
  rw [← hpb] at p1 ⊢
  clear hpb
  generalize (w.alloc _).alloc _ = w0 at k1 p1 ⊢
  have K1 := Lib.hid k1
  obtain ⟨b0, b1, b2, c3, c4, -, -, lt⟩ := k1
  go_wp2_with fail
  refine (fcap_is (HS.out.on K1.out.old) HQ.out HCAP.out (HL.out.on K1.out.old) HF.out).mono ?_
  rintro e w2 ⟨rfl, hb⟩
  have K2 := Lib.hid (K1.out.on hb)
  clear hb b0 b1 b2 c3 c4 lt K1 p1
  obtain ⟨ty, th, ri, ba⟩ := cp
  simp only [Cp.val]
  have J1 := Bxs.new w2 [.int .i64 ty, .int .i64 th, .int .i64 ri, .int .i64 ba] 50
  have K3 := Lib.hid (K2.out.on (below_alloc _ (.cells #[.int .i64 ty, .int .i64 th, .int .i64 ri, .int .i64 ba] 50)))
  by_cases hy : y1 = 0
  case neg =>
    have HX : Hid ((x, y) = (0, y1)) := Lib.hid (by rw [← HR.out, if_neg hy])
    have hy2 : (y1 != 0) = true := by simpa using hy
    clear J1
    go_wp2
    go_ret2
    obtain ⟨rfl, rfl⟩ := Prod.mk.inj HX.out
    exact ⟨rfl, K3.out.old⟩
  subst hy
  obtain ⟨k, rfl, hk, hg, hc, -⟩ := fcap_yes HF.out
  have hri := (sgood_iff.1 hg).capOk hk
  rw [hc] at hri
  have hand := and_two hri.1 hri.2
  have HRR := HR.out
  rw [if_pos rfl] at HRR
  simp only at HRR hand
  have HX := Lib.hid HRR
  have HK3 := K3
  clear HRR HR hri hc hk hg K2 HF
  obtain ⟨jb, hjb⟩ : ∃ jb, jb = w2.heap.size := ⟨_, rfl⟩
  have j0 := J1.c 0 _ rfl
  have j2 := J1.c 2 _ rfl
  clear J1
  by_cases h1 : ty = 1
  case neg =>
    have h1' : (ty != 1) = true := by simpa using h1
    go_wp2
    go_ret2
    rw [if_neg h1] at HX
    obtain ⟨rfl, rfl⟩ := Prod.mk.inj HX.out
    exact ⟨rfl, K3.out.old⟩
  subst h1
  by_cases h2 : ri / 2 % 2 = 1
  case neg =>
    have h2' : (bits BinOp.and IntKind.i64 ri 2 == 0) = true := by rw [hand]; simp [h2]
    clear hand
    go_wp2
    go_ret2
    have HY := HX.out
    simp only [if_true, if_neg h2] at HY
    obtain ⟨rfl, rfl⟩ := Prod.mk.inj HY
    exact ⟨rfl, K3.out.old⟩
  have h2' : (bits BinOp.and IntKind.i64 ri 2 == 0) = false := by rw [hand]; simp [h2]
  clear hand
  go_wp2
  go_ret2
  have HY := HX.out
  simp only [if_true, if_pos h2] at HY
  obtain ⟨rfl, rfl⟩ := Prod.mk.inj HY
  exact ⟨rfl, K3.out.old⟩
end Go.Proofs.YtjnohbahjlidoaaGreat
namespace Go.Proofs.YtjnohbahjlidoaaGreat
open Go.RowKit

/-- a new thing handed back, its number -/
def NewR (e : Ending) (r : Option (Nat × Tng)) : Prop := ∃ z : Int, (∀ q, r = some q → z = (q.1 : Int)) ∧ e = .returned (.tuple #[.int .i64 z, ((r.map fun q : Nat × Tng => q.2).getD Tng.zero).val, .bool r.isSome])
theorem newR_none : NewR (.returned (.tuple #[.int .i64 0, .agg #[.int .i64 0, .int .i64 0, .int .i64 0, .int .i64 0, .int .i64 0, .int .i64 0, .int .i64 0, .bool false, .int .u64 0, .int .u64 0, .int .u64 0, .int .u64 0, .int .u64 0], .bool false])) none := ⟨0, fun _ h => (by cases h), rfl⟩
set_option maxRecDepth 100000 in
set_option maxHeartbeats 8000000 in
theorem newthing_is {s : St} {a b c : Int} {A C : Option Addr} {n ca m cc : Nat} {kind size : Int} {r : Option (Nat × Tng)} {w : World} (hS : StH w s a b c A n ca C m cc) (hr : cnum s kind size = r) :
    Calls Tryz.prog 103 #[.agg #[.int .i64 a, .int .i64 b, .int .i64 c, .slice A n ca, .slice C m cc], .int .i64 kind, .int .i64 size] w fun e w' => NewR e r ∧ Below w.heap.size w w' := by
  have HS := Lib.hid hS
  have HR := Lib.hid hr
  have k0 := Sbx.new w a b c A n ca C m cc 28
  have r1 := Wbs.more k0.old [.int .i64 0, .int .i64 0, .int .i64 0, .int .i64 0, .int .i64 0, .int .i64 0, .int .i64 0, .bool false, .int .u64 0, .int .u64 0, .int .u64 0, .int .u64 0, .int .u64 0] 45
  rw [show (w.alloc (.cells #[.int .i64 a, .int .i64 b, .int .i64 c, .slice A n ca, .slice C m cc] 28)).heap.size = w.heap.size + 1 by simp] at r1
  have k1 := k0.on (below_alloc _ (.cells #[.int .i64 0, .int .i64 0, .int .i64 0, .int .i64 0, .int .i64 0, .int .i64 0, .int .i64 0, .bool false, .int .u64 0, .int .u64 0, .int .u64 0, .int .u64 0, .int .u64 0] 45))
  clear hS hr k0
  by_cases h2 : kind = 2
  · subst h2
    go_enter Tryz.func103, Tryz.ntmps103
    go_wp2_with fail
    obtain ⟨g, hg⟩ : ∃ g, g = w.heap.size := ⟨_, rfl⟩
    obtain ⟨q, hq⟩ : ∃ q, q = g + 1 := ⟨_, rfl⟩
    rw [← hg] at k1 r1
    rw [← hq] at r1
    rw [← hg]
    try rw [← hq]
    clear hg hq
    generalize (w.alloc _).alloc _ = w1 at k1 r1 ⊢
    have K1 := Lib.hid k1
    have R1 := Lib.hid r1
    clear k1 r1
    obtain ⟨b0, b1, b2, c3, c4, -, -, lt⟩ := K1.out
    go_wp2_with fail
    obtain ⟨gp, hgp⟩ : ∃ gp, sgap s size = gp := ⟨_, rfl⟩
    have HGP := Lib.hid hgp
    clear hgp
    refine (pgap_is (HS.out.on K1.out.old) HGP.out).mono ?_
    rintro e w4 ⟨rfl, hb⟩
    have K4 := Lib.hid (K1.out.on hb)
    have R4 := Lib.hid (R1.out.on hb)
    clear hb b0 b1 b2 c3 c4 lt K1 R1
    cases gp with
    | none =>
      simp only [gv, Option.isSome_none]
      have hX : r = none := by rw [← HR.out, cnum, cbase, if_pos rfl, HGP.out]; rfl
      subst hX
      have r0 := R4.out.bx.c 0 _ rfl
      have r1 := R4.out.bx.c 1 _ rfl
      have r2 := R4.out.bx.c 2 _ rfl
      have r3 := R4.out.bx.c 3 _ rfl
      have r4 := R4.out.bx.c 4 _ rfl
      have r5 := R4.out.bx.c 5 _ rfl
      have r6 := R4.out.bx.c 6 _ rfl
      have r7 := R4.out.bx.c 7 _ rfl
      have r8 := R4.out.bx.c 8 _ rfl
      have r9 := R4.out.bx.c 9 _ rfl
      have r10 := R4.out.bx.c 10 _ rfl
      have r11 := R4.out.bx.c 11 _ rfl
      have r12 := R4.out.bx.c 12 _ rfl
      have fr0 := R4.out.free 0
      have fr1 := R4.out.free 1
      have fr2 := R4.out.free 2
      have fr3 := R4.out.free 3
      have fr4 := R4.out.free 4
      have fr5 := R4.out.free 5
      have fr6 := R4.out.free 6
      have fr7 := R4.out.free 7
      have fr8 := R4.out.free 8
      have fr9 := R4.out.free 9
      have fr10 := R4.out.free 10
      have fr11 := R4.out.free 11
      have fr12 := R4.out.free 12
      go_wp2
      have qq := R4.out.puts (vs := [.int .i64 0, .int .i64 0, .int .i64 0, .int .i64 0, .int .i64 0, .int .i64 0, .int .i64 0, .bool false, .int .u64 0, .int .u64 0, .int .u64 0, .int .u64 0, .int .u64 0]) rfl
      have q0 := qq.bx.c 0 _ rfl
      have q1 := qq.bx.c 1 _ rfl
      have q2 := qq.bx.c 2 _ rfl
      have q3 := qq.bx.c 3 _ rfl
      have q4 := qq.bx.c 4 _ rfl
      have q5 := qq.bx.c 5 _ rfl
      have q6 := qq.bx.c 6 _ rfl
      have q7 := qq.bx.c 7 _ rfl
      have q8 := qq.bx.c 8 _ rfl
      have q9 := qq.bx.c 9 _ rfl
      have q10 := qq.bx.c 10 _ rfl
      have q11 := qq.bx.c 11 _ rfl
      have q12 := qq.bx.c 12 _ rfl
      simp only [puts] at q0 q1 q2 q3 q4 q5 q6 q7 q8 q9 q10 q11 q12
      refine bodyPost_ret (by simp [results, Tryz.results103, go_sem, q0, q1, q2, q3, q4, q5, q6, q7, q8, q9, q10, q11, q12]; rfl) rfl ?_
      exact ⟨newR_none, qq.bx.old⟩
    | some gp =>
      have HCB : Hid (cbase s 2 size = some (gp : Int)) := Lib.hid (by rw [cbase, if_pos rfl, HGP.out]; rfl)
      simp only [gv, Option.isSome_some, Option.getD_some]
      have HNUM : Hid (r = match sfree s with | none => none | some n => (tnew 2 size (gp : Int)).map fun t => (n, t)) := Lib.hid (by rw [← HR.out, cnum, HCB.out]; first | done | rfl)
      clear HR
      obtain ⟨b0, b1, b2, c3, c4, -, -, lt⟩ := K4.out
      go_wp2_with fail
      obtain ⟨fr, hfr⟩ : ∃ fr, sfree s = fr := ⟨_, rfl⟩
      have HFR := Lib.hid hfr
      rw [hfr] at HNUM
      clear hfr
      refine (pfree_is (HS.out.on K4.out.old) (by rw [HFR.out])).mono ?_
      rintro e w5 ⟨rfl, hb⟩
      have K5 := Lib.hid (K4.out.on hb)
      have R5 := Lib.hid (R4.out.on hb)
      clear hb b0 b1 b2 c3 c4 lt K4 R4
      cases fr with
      | none =>
        simp only [optI]
        have hX := HNUM.out
        simp only at hX
        subst hX
        clear HNUM
        have r0 := R5.out.bx.c 0 _ rfl
        have r1 := R5.out.bx.c 1 _ rfl
        have r2 := R5.out.bx.c 2 _ rfl
        have r3 := R5.out.bx.c 3 _ rfl
        have r4 := R5.out.bx.c 4 _ rfl
        have r5 := R5.out.bx.c 5 _ rfl
        have r6 := R5.out.bx.c 6 _ rfl
        have r7 := R5.out.bx.c 7 _ rfl
        have r8 := R5.out.bx.c 8 _ rfl
        have r9 := R5.out.bx.c 9 _ rfl
        have r10 := R5.out.bx.c 10 _ rfl
        have r11 := R5.out.bx.c 11 _ rfl
        have r12 := R5.out.bx.c 12 _ rfl
        have fr0 := R5.out.free 0
        have fr1 := R5.out.free 1
        have fr2 := R5.out.free 2
        have fr3 := R5.out.free 3
        have fr4 := R5.out.free 4
        have fr5 := R5.out.free 5
        have fr6 := R5.out.free 6
        have fr7 := R5.out.free 7
        have fr8 := R5.out.free 8
        have fr9 := R5.out.free 9
        have fr10 := R5.out.free 10
        have fr11 := R5.out.free 11
        have fr12 := R5.out.free 12
        go_wp2
        have qq := R5.out.puts (vs := [.int .i64 0, .int .i64 0, .int .i64 0, .int .i64 0, .int .i64 0, .int .i64 0, .int .i64 0, .bool false, .int .u64 0, .int .u64 0, .int .u64 0, .int .u64 0, .int .u64 0]) rfl
        have q0 := qq.bx.c 0 _ rfl
        have q1 := qq.bx.c 1 _ rfl
        have q2 := qq.bx.c 2 _ rfl
        have q3 := qq.bx.c 3 _ rfl
        have q4 := qq.bx.c 4 _ rfl
        have q5 := qq.bx.c 5 _ rfl
        have q6 := qq.bx.c 6 _ rfl
        have q7 := qq.bx.c 7 _ rfl
        have q8 := qq.bx.c 8 _ rfl
        have q9 := qq.bx.c 9 _ rfl
        have q10 := qq.bx.c 10 _ rfl
        have q11 := qq.bx.c 11 _ rfl
        have q12 := qq.bx.c 12 _ rfl
        simp only [puts] at q0 q1 q2 q3 q4 q5 q6 q7 q8 q9 q10 q11 q12
        refine bodyPost_ret (by simp [results, Tryz.results103, go_sem, q0, q1, q2, q3, q4, q5, q6, q7, q8, q9, q10, q11, q12]; rfl) rfl ?_
        exact ⟨newR_none, qq.bx.old⟩
      | some fr =>
        simp only [optI]
        have hX := HNUM.out
        simp only at hX
        have HX := Lib.hid hX
        have hne : ((fr : Int) == -1) = false := by rw [beq_eq_false_iff_ne]; omega
        clear hX HNUM
        go_wp2_with fail
        obtain ⟨nt, hnt⟩ : ∃ nt, tnew 2 size (gp : Int) = nt := ⟨_, rfl⟩
        have HNT := Lib.hid hnt
        rw [hnt] at HX
        clear hnt hne
        refine (pnewt_is HNT.out).mono ?_
        rintro e w6 ⟨rfl, hb⟩
        have K6 := Lib.hid (K5.out.on hb)
        have R6 := Lib.hid (R5.out.on hb)
        clear hb K5 R5
        have HRES : Hid (∀ t z, nt.getD .zero = t → nt.isSome = z → NewR (.returned (.tuple #[.int .i64 (fr : Int), t.val, .bool z])) r) := Lib.hid (fun t z h1 h2 => by
          subst h1 h2
          rw [HX.out]
          cases nt with
          | none => exact ⟨fr, fun _ h => (by cases h), rfl⟩
          | some t => exact ⟨fr, fun q h => (by injection h with h; rw [← h]), rfl⟩)
        simp only [tv]
        obtain ⟨t, ht⟩ : ∃ t, nt.getD .zero = t := ⟨_, rfl⟩
        obtain ⟨z, hz⟩ : ∃ z, nt.isSome = z := ⟨_, rfl⟩
        rw [ht, hz]
        have HRES2 := Lib.hid (HRES.out t z ht hz)
        clear ht hz HRES HX HNT
        obtain ⟨ty, bits, base', size', used, frm, badge, full, word, d0, d1, d2, d3⟩ := t
        simp only [Tng.val] at HRES2 ⊢
        have J7 := Lib.hid (Bxs.new w6 [.int .i64 ty, .int .i64 bits, .int .i64 base', .int .i64 size', .int .i64 used, .int .i64 frm, .int .i64 badge, .bool full, .int .u64 (word : Int), .int .u64 (d0 : Int), .int .u64 (d1 : Int), .int .u64 (d2 : Int), .int .u64 (d3 : Int)] 45)
        have R7 := Lib.hid (R6.out.on (below_alloc w6 (.cells #[.int .i64 ty, .int .i64 bits, .int .i64 base', .int .i64 size', .int .i64 used, .int .i64 frm, .int .i64 badge, .bool full, .int .u64 (word : Int), .int .u64 (d0 : Int), .int .u64 (d1 : Int), .int .u64 (d2 : Int), .int .u64 (d3 : Int)] 45)))
        clear R6
        have j0 := J7.out.c 0 _ rfl
        have j1 := J7.out.c 1 _ rfl
        have j2 := J7.out.c 2 _ rfl
        have j3 := J7.out.c 3 _ rfl
        have j4 := J7.out.c 4 _ rfl
        have j5 := J7.out.c 5 _ rfl
        have j6 := J7.out.c 6 _ rfl
        have j7 := J7.out.c 7 _ rfl
        have j8 := J7.out.c 8 _ rfl
        have j9 := J7.out.c 9 _ rfl
        have j10 := J7.out.c 10 _ rfl
        have j11 := J7.out.c 11 _ rfl
        have j12 := J7.out.c 12 _ rfl
        have r0 := R7.out.bx.c 0 _ rfl
        have r1 := R7.out.bx.c 1 _ rfl
        have r2 := R7.out.bx.c 2 _ rfl
        have r3 := R7.out.bx.c 3 _ rfl
        have r4 := R7.out.bx.c 4 _ rfl
        have r5 := R7.out.bx.c 5 _ rfl
        have r6 := R7.out.bx.c 6 _ rfl
        have r7 := R7.out.bx.c 7 _ rfl
        have r8 := R7.out.bx.c 8 _ rfl
        have r9 := R7.out.bx.c 9 _ rfl
        have r10 := R7.out.bx.c 10 _ rfl
        have r11 := R7.out.bx.c 11 _ rfl
        have r12 := R7.out.bx.c 12 _ rfl
        have fr0 := R7.out.free 0
        have fr1 := R7.out.free 1
        have fr2 := R7.out.free 2
        have fr3 := R7.out.free 3
        have fr4 := R7.out.free 4
        have fr5 := R7.out.free 5
        have fr6 := R7.out.free 6
        have fr7 := R7.out.free 7
        have fr8 := R7.out.free 8
        have fr9 := R7.out.free 9
        have fr10 := R7.out.free 10
        have fr11 := R7.out.free 11
        have fr12 := R7.out.free 12
        go_wp2_with fail
        go_region
        go_wp2
        have qq := R7.out.puts (vs := [.int .i64 ty, .int .i64 bits, .int .i64 base', .int .i64 size', .int .i64 used, .int .i64 frm, .int .i64 badge, .bool full, .int .u64 (word : Int), .int .u64 (d0 : Int), .int .u64 (d1 : Int), .int .u64 (d2 : Int), .int .u64 (d3 : Int)]) rfl
        have q0 := qq.bx.c 0 _ rfl
        have q1 := qq.bx.c 1 _ rfl
        have q2 := qq.bx.c 2 _ rfl
        have q3 := qq.bx.c 3 _ rfl
        have q4 := qq.bx.c 4 _ rfl
        have q5 := qq.bx.c 5 _ rfl
        have q6 := qq.bx.c 6 _ rfl
        have q7 := qq.bx.c 7 _ rfl
        have q8 := qq.bx.c 8 _ rfl
        have q9 := qq.bx.c 9 _ rfl
        have q10 := qq.bx.c 10 _ rfl
        have q11 := qq.bx.c 11 _ rfl
        have q12 := qq.bx.c 12 _ rfl
        simp only [puts] at q0 q1 q2 q3 q4 q5 q6 q7 q8 q9 q10 q11 q12
        refine bodyPost_ret (by simp [results, Tryz.results103, go_sem, q0, q1, q2, q3, q4, q5, q6, q7, q8, q9, q10, q11, q12]; rfl) rfl ?_
        exact ⟨HRES2.out, qq.bx.old.drew⟩
  · have HCB : Hid (cbase s kind size = some 0) := Lib.hid (by rw [cbase, if_neg h2])
    have h2' : (kind == 2) = false := by simpa using h2
    go_enter Tryz.func103, Tryz.ntmps103
    go_wp2_with fail
    obtain ⟨g, hg⟩ : ∃ g, g = w.heap.size := ⟨_, rfl⟩
    obtain ⟨q, hq⟩ : ∃ q, q = g + 1 := ⟨_, rfl⟩
    rw [← hg] at k1 r1
    rw [← hq] at r1
    rw [← hg]
    try rw [← hq]
    clear hg hq
    generalize (w.alloc _).alloc _ = w1 at k1 r1 ⊢
    have K1 := Lib.hid k1
    have R1 := Lib.hid r1
    clear k1 r1
    have K4 := K1
    have R4 := R1
    clear K1 R1
    have HNUM : Hid (r = match sfree s with | none => none | some n => (tnew kind size 0).map fun t => (n, t)) := Lib.hid (by rw [← HR.out, cnum, HCB.out]; first | done | rfl)
    clear HR
    obtain ⟨b0, b1, b2, c3, c4, -, -, lt⟩ := K4.out
    go_wp2_with fail
    obtain ⟨fr, hfr⟩ : ∃ fr, sfree s = fr := ⟨_, rfl⟩
    have HFR := Lib.hid hfr
    rw [hfr] at HNUM
    clear hfr
    refine (pfree_is (HS.out.on K4.out.old) (by rw [HFR.out])).mono ?_
    rintro e w5 ⟨rfl, hb⟩
    have K5 := Lib.hid (K4.out.on hb)
    have R5 := Lib.hid (R4.out.on hb)
    clear hb b0 b1 b2 c3 c4 lt K4 R4
    cases fr with
    | none =>
      simp only [optI]
      have hX := HNUM.out
      simp only at hX
      subst hX
      clear HNUM
      have r0 := R5.out.bx.c 0 _ rfl
      have r1 := R5.out.bx.c 1 _ rfl
      have r2 := R5.out.bx.c 2 _ rfl
      have r3 := R5.out.bx.c 3 _ rfl
      have r4 := R5.out.bx.c 4 _ rfl
      have r5 := R5.out.bx.c 5 _ rfl
      have r6 := R5.out.bx.c 6 _ rfl
      have r7 := R5.out.bx.c 7 _ rfl
      have r8 := R5.out.bx.c 8 _ rfl
      have r9 := R5.out.bx.c 9 _ rfl
      have r10 := R5.out.bx.c 10 _ rfl
      have r11 := R5.out.bx.c 11 _ rfl
      have r12 := R5.out.bx.c 12 _ rfl
      have fr0 := R5.out.free 0
      have fr1 := R5.out.free 1
      have fr2 := R5.out.free 2
      have fr3 := R5.out.free 3
      have fr4 := R5.out.free 4
      have fr5 := R5.out.free 5
      have fr6 := R5.out.free 6
      have fr7 := R5.out.free 7
      have fr8 := R5.out.free 8
      have fr9 := R5.out.free 9
      have fr10 := R5.out.free 10
      have fr11 := R5.out.free 11
      have fr12 := R5.out.free 12
      go_wp2
      have qq := R5.out.puts (vs := [.int .i64 0, .int .i64 0, .int .i64 0, .int .i64 0, .int .i64 0, .int .i64 0, .int .i64 0, .bool false, .int .u64 0, .int .u64 0, .int .u64 0, .int .u64 0, .int .u64 0]) rfl
      have q0 := qq.bx.c 0 _ rfl
      have q1 := qq.bx.c 1 _ rfl
      have q2 := qq.bx.c 2 _ rfl
      have q3 := qq.bx.c 3 _ rfl
      have q4 := qq.bx.c 4 _ rfl
      have q5 := qq.bx.c 5 _ rfl
      have q6 := qq.bx.c 6 _ rfl
      have q7 := qq.bx.c 7 _ rfl
      have q8 := qq.bx.c 8 _ rfl
      have q9 := qq.bx.c 9 _ rfl
      have q10 := qq.bx.c 10 _ rfl
      have q11 := qq.bx.c 11 _ rfl
      have q12 := qq.bx.c 12 _ rfl
      simp only [puts] at q0 q1 q2 q3 q4 q5 q6 q7 q8 q9 q10 q11 q12
      refine bodyPost_ret (by simp [results, Tryz.results103, go_sem, q0, q1, q2, q3, q4, q5, q6, q7, q8, q9, q10, q11, q12]; rfl) rfl ?_
      exact ⟨newR_none, qq.bx.old⟩
    | some fr =>
      simp only [optI]
      have hX := HNUM.out
      simp only at hX
      have HX := Lib.hid hX
      have hne : ((fr : Int) == -1) = false := by rw [beq_eq_false_iff_ne]; omega
      clear hX HNUM
      go_wp2_with fail
      obtain ⟨nt, hnt⟩ : ∃ nt, tnew kind size 0 = nt := ⟨_, rfl⟩
      have HNT := Lib.hid hnt
      rw [hnt] at HX
      clear hnt hne
      refine (pnewt_is HNT.out).mono ?_
      rintro e w6 ⟨rfl, hb⟩
      have K6 := Lib.hid (K5.out.on hb)
      have R6 := Lib.hid (R5.out.on hb)
      clear hb K5 R5
      have HRES : Hid (∀ t z, nt.getD .zero = t → nt.isSome = z → NewR (.returned (.tuple #[.int .i64 (fr : Int), t.val, .bool z])) r) := Lib.hid (fun t z h1 h2 => by
        subst h1 h2
        rw [HX.out]
        cases nt with
        | none => exact ⟨fr, fun _ h => (by cases h), rfl⟩
        | some t => exact ⟨fr, fun q h => (by injection h with h; rw [← h]), rfl⟩)
      simp only [tv]
      obtain ⟨t, ht⟩ : ∃ t, nt.getD .zero = t := ⟨_, rfl⟩
      obtain ⟨z, hz⟩ : ∃ z, nt.isSome = z := ⟨_, rfl⟩
      rw [ht, hz]
      have HRES2 := Lib.hid (HRES.out t z ht hz)
      clear ht hz HRES HX HNT
      obtain ⟨ty, bits, base', size', used, frm, badge, full, word, d0, d1, d2, d3⟩ := t
      simp only [Tng.val] at HRES2 ⊢
      have J7 := Lib.hid (Bxs.new w6 [.int .i64 ty, .int .i64 bits, .int .i64 base', .int .i64 size', .int .i64 used, .int .i64 frm, .int .i64 badge, .bool full, .int .u64 (word : Int), .int .u64 (d0 : Int), .int .u64 (d1 : Int), .int .u64 (d2 : Int), .int .u64 (d3 : Int)] 45)
      have R7 := Lib.hid (R6.out.on (below_alloc w6 (.cells #[.int .i64 ty, .int .i64 bits, .int .i64 base', .int .i64 size', .int .i64 used, .int .i64 frm, .int .i64 badge, .bool full, .int .u64 (word : Int), .int .u64 (d0 : Int), .int .u64 (d1 : Int), .int .u64 (d2 : Int), .int .u64 (d3 : Int)] 45)))
      clear R6
      have j0 := J7.out.c 0 _ rfl
      have j1 := J7.out.c 1 _ rfl
      have j2 := J7.out.c 2 _ rfl
      have j3 := J7.out.c 3 _ rfl
      have j4 := J7.out.c 4 _ rfl
      have j5 := J7.out.c 5 _ rfl
      have j6 := J7.out.c 6 _ rfl
      have j7 := J7.out.c 7 _ rfl
      have j8 := J7.out.c 8 _ rfl
      have j9 := J7.out.c 9 _ rfl
      have j10 := J7.out.c 10 _ rfl
      have j11 := J7.out.c 11 _ rfl
      have j12 := J7.out.c 12 _ rfl
      have r0 := R7.out.bx.c 0 _ rfl
      have r1 := R7.out.bx.c 1 _ rfl
      have r2 := R7.out.bx.c 2 _ rfl
      have r3 := R7.out.bx.c 3 _ rfl
      have r4 := R7.out.bx.c 4 _ rfl
      have r5 := R7.out.bx.c 5 _ rfl
      have r6 := R7.out.bx.c 6 _ rfl
      have r7 := R7.out.bx.c 7 _ rfl
      have r8 := R7.out.bx.c 8 _ rfl
      have r9 := R7.out.bx.c 9 _ rfl
      have r10 := R7.out.bx.c 10 _ rfl
      have r11 := R7.out.bx.c 11 _ rfl
      have r12 := R7.out.bx.c 12 _ rfl
      have fr0 := R7.out.free 0
      have fr1 := R7.out.free 1
      have fr2 := R7.out.free 2
      have fr3 := R7.out.free 3
      have fr4 := R7.out.free 4
      have fr5 := R7.out.free 5
      have fr6 := R7.out.free 6
      have fr7 := R7.out.free 7
      have fr8 := R7.out.free 8
      have fr9 := R7.out.free 9
      have fr10 := R7.out.free 10
      have fr11 := R7.out.free 11
      have fr12 := R7.out.free 12
      go_wp2_with fail
      go_region
      go_wp2
      have qq := R7.out.puts (vs := [.int .i64 ty, .int .i64 bits, .int .i64 base', .int .i64 size', .int .i64 used, .int .i64 frm, .int .i64 badge, .bool full, .int .u64 (word : Int), .int .u64 (d0 : Int), .int .u64 (d1 : Int), .int .u64 (d2 : Int), .int .u64 (d3 : Int)]) rfl
      have q0 := qq.bx.c 0 _ rfl
      have q1 := qq.bx.c 1 _ rfl
      have q2 := qq.bx.c 2 _ rfl
      have q3 := qq.bx.c 3 _ rfl
      have q4 := qq.bx.c 4 _ rfl
      have q5 := qq.bx.c 5 _ rfl
      have q6 := qq.bx.c 6 _ rfl
      have q7 := qq.bx.c 7 _ rfl
      have q8 := qq.bx.c 8 _ rfl
      have q9 := qq.bx.c 9 _ rfl
      have q10 := qq.bx.c 10 _ rfl
      have q11 := qq.bx.c 11 _ rfl
      have q12 := qq.bx.c 12 _ rfl
      simp only [puts] at q0 q1 q2 q3 q4 q5 q6 q7 q8 q9 q10 q11 q12
      refine bodyPost_ret (by simp [results, Tryz.results103, go_sem, q0, q1, q2, q3, q4, q5, q6, q7, q8, q9, q10, q11, q12]; rfl) rfl ?_
      exact ⟨HRES2.out, qq.bx.old.drew⟩
end Go.Proofs.YtjnohbahjlidoaaGreat
namespace Go.Proofs.YtjnohbahjlidoaaGreat
open Go.RowKit

theorem puts_cells (g : Nat) : ∀ (vs : List Value) (w : World) (i : Nat), puts w g i vs = w.setCells g i vs
  | [], _, _ => rfl
  | v :: vs, w, i => puts_cells g vs (w.setCell ⟨g, i, none⟩ v) (i + 1)
theorem Wbs.there {W w : World} {g n : Nat} {cs : List Value} (h : Wbs W w g cs) (hn : cs.length = n) : w.there g 0 n := fun j hj =>
  ⟨by rw [Nat.zero_add, h.bx.c j _ (List.getElem?_eq_getElem (by omega))]; rfl, h.free _⟩
theorem Wbs.setCells {W w : World} {g : Nat} {cs vs : List Value} (h : Wbs W w g cs) (hl : cs.length = vs.length) : Wbs W (w.setCells g 0 vs) g vs := by
  rw [← puts_cells]
  exact h.puts hl
theorem Bxs.range {W w : World} {g : Nat} {cs : List Value} (h : Bxs W w g cs) : w.rangeAt g 0 cs := fun j v hv => by
  rw [Nat.zero_add]
  exact h.c j v hv
theorem Bxs.drew {W w : World} {g : Nat} {cs : List Value} (h : Bxs W w g cs) : Bxs W w.drew g cs := h.on (below_self w).drew
theorem results_ct {fn : Func} {c t : Tmp} {ty : TypeId} (h : fn.results = #[.cell c ty, .tmp t]) (tmps : Array Value) (P : Program) (w : World) {b : Nat} {cs : List Value} {d : TypeDesc} (hp : tmps.getD c undef = .pointer (some ⟨b, 0, none⟩))
    (hc : w.rangeAt b 0 cs) (hu : P.underlying ty = some d) (hd : d.isRow = true) (hi : (P.info? ty).map (·.size) = some cs.length) : (results fn tmps).run P w = .ok (.tuple #[.agg cs.toArray, tmps.getD t undef]) w := by
  have e := run_loadVar_mid w b 0 ty cs d hc hu hd hi
  have hp2 : tmps[c]?.getD undef = .pointer (some ⟨b, 0, none⟩) := by simpa using hp
  simp [results, h, hp2, asAddr, e]
theorem results_cc {fn : Func} {c c' : Tmp} {ty ty' : TypeId} (h : fn.results = #[.cell c ty, .cell c' ty']) (tmps : Array Value) (P : Program) (w : World) {b b' : Nat} {cs cs' : List Value} {d d' : TypeDesc} (hp : tmps.getD c undef = .pointer (some ⟨b, 0, none⟩))
    (hc : w.rangeAt b 0 cs) (hu : P.underlying ty = some d) (hd : d.isRow = true) (hi : (P.info? ty).map (·.size) = some cs.length) (hp' : tmps.getD c' undef = .pointer (some ⟨b', 0, none⟩))
    (hc' : w.rangeAt b' 0 cs') (hu' : P.underlying ty' = some d') (hd' : d'.isRow = true) (hi' : (P.info? ty').map (·.size) = some cs'.length) : (results fn tmps).run P w = .ok (.tuple #[.agg cs.toArray, .agg cs'.toArray]) w := by
  have e := run_loadVar_mid w b 0 ty cs d hc hu hd hi
  have e' := run_loadVar_mid w b' 0 ty' cs' d' hc' hu' hd' hi'
  have hp2 : tmps[c]?.getD undef = .pointer (some ⟨b, 0, none⟩) := by simpa using hp
  have hp3 : tmps[c']?.getD undef = .pointer (some ⟨b', 0, none⟩) := by simpa using hp'
  simp [results, h, hp2, hp3, asAddr, Sem.run_bind, e, e']
theorem info_plan : (Tryz.prog.info? 88).map (·.size) = some 17 := by kernel_rfl
theorem info_thing : (Tryz.prog.info? 45).map (·.size) = some 13 := by kernel_rfl
theorem info_state : (Tryz.prog.info? 28).map (·.size) = some 5 := by kernel_rfl
theorem info_slot : (Tryz.prog.info? 52).map (·.size) = some 5 := by kernel_rfl
theorem info_reply : (Tryz.prog.info? 33).map (·.size) = some 3 := by kernel_rfl
theorem plan_one (a0 a1 a2 a3 a4 a5 a6 a7 a8 a9 a10 : Int) (f : Bool) (x0 x1 x2 x3 x4 : Int) : (#[.int .i64 a0, .int .i64 a1, .int .i64 a2, .int .i64 a3, .int .i64 a4, .int .i64 a5, .int .i64 a6, .int .i64 a7, .int .i64 a8, .int .i64 a9, .int .i64 a10, .bool f, .int .u64 x0, .int .u64 x1, .int .u64 x2, .int .u64 x3, .int .u64 x4] : Array Value).all (·.oneCell') = true := by
  simp [Value.oneCell']
theorem thing_one (a4 a5 a6 a7 a8 a9 a10 : Int) (f : Bool) (x0 x1 x2 x3 x4 : Int) : (#[.int .i64 a4, .int .i64 a5, .int .i64 a6, .int .i64 a7, .int .i64 a8, .int .i64 a9, .int .i64 a10, .bool f, .int .u64 x0, .int .u64 x1, .int .u64 x2, .int .u64 x3, .int .u64 x4] : Array Value).all (·.oneCell') = true := by
  simp [Value.oneCell']
theorem slot_one (a0 a1 a2 a3 a4 : Int) : (#[.int .i64 a0, .int .i64 a1, .int .i64 a2, .int .i64 a3, .int .i64 a4] : Array Value).all (·.oneCell') = true := by
  simp [Value.oneCell']
theorem state_one (a0 a1 a2 : Int) (A : Option Addr) (n ca : Nat) (C : Option Addr) (m cc : Nat) : (#[.int .i64 a0, .int .i64 a1, .int .i64 a2, .slice A n ca, .slice C m cc] : Array Value).all (·.oneCell') = true := by
  simp [Value.oneCell']
theorem reply_one (a0 x a2 : Int) : (#[.int .i64 a0, .int .u64 x, .int .i64 a2] : Array Value).all (·.oneCell') = true := by
  simp [Value.oneCell']
end Go.Proofs.YtjnohbahjlidoaaGreat
