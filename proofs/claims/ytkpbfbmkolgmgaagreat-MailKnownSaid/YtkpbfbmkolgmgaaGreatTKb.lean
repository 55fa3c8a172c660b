/-
  What the program asks of a state, clause by clause, and that it is the same as sgood; what it finds of Nodes in Nodes, each gone into once. No condition.
  The program's small calls on states: isSlot, isThing, isFull, isThere, isRoot, span, rootOf, mayComeOf, slotFits, counted. Condition: the state lies in memory.
-/
import Derived.Test.YtkpbfbmkolgmgaaGreatTA2
import Derived.Test.YtkpbfbmkolgmgaaGreatTA3
namespace Go.Proofs.YtkpbfbmkolgmgaaGreat

/-! ### the program's clauses -/
def St.fitS (s : St) (x : Sl) : Bool := if x.c.non = true then x.up == -1 else x.c.good && (decide (0 ≤ x.c.th) && (decide (x.c.th < s.th.length) && ((thAt s.th x.c.th.toNat).ty == x.c.ty && decide (-1 ≤ x.up))))
def St.fullB (s : St) (i : Int) : Bool := decide (0 ≤ i) && (decide (i < s.sl.length) && !(slAt s.sl i.toNat).c.non)
def St.p4 (s : St) (i : Nat) : Bool := (slAt s.sl i).up == -1 || cameOk (slAt s.sl i).c (slAt s.sl (slAt s.sl i).up.toNat).c
def ownOk (th : List Tng) (n i : Nat) : Bool := !((thAt th i).ty == 2 && decide ((n : Int) < (thAt th i).base + tw2 (thAt th i).bits)) && (List.range i).all fun k => !(thAt th i).meets (thAt th k)
def St.p6 (s : St) (i : Nat) : Bool := (slAt s.sl i).c.non || (ownerN s.th i).isSome
def heldB (sl : List Sl) (t : Nat) : Bool := (List.range sl.length).any fun i => !(slAt sl i).c.non && (slAt sl i).c.th == (t : Int)
def St.p8 (s : St) (i : Nat) : Bool := (thAt s.th i).ty == 0 || (heldB s.sl i || s.root i)
def St.p9 (s : St) (i : Nat) : Bool := (thAt s.th i).frm == 0 || s.fullB ((thAt s.th i).frm - 1)
/-- all of them -/
structure Pst (s : St) : Prop where
  k1 : s.k1 = true
  p2 : ∀ i, i < s.th.length → (thAt s.th i).good = true
  p3 : ∀ i, i < s.sl.length → s.fitS (slAt s.sl i) = true
  k5 : s.k5 = true
  p4 : ∀ i, i < s.sl.length → s.p4 i = true
  p5 : ∀ t : Nat, (t : Int) < s.g.t → s.k3 t = true
  own : ∀ i, i < s.th.length → ownOk s.th s.sl.length i = true
  p6 : ∀ i, i < s.sl.length → s.p6 i = true
  p7 : ∀ i, i < s.th.length → ringN s i = false
  p8 : ∀ i, i < s.th.length → s.p8 i = true
  p9 : ∀ i, i < s.th.length → s.p9 i = true
theorem cgood_non {c : Cp} (h : c.good = true) : c.non = true ↔ c.ty = 0 := by
  obtain ⟨a, b, d, f⟩ := c
  constructor
  · intro e; rw [non_eq e]; rfl
  · intro e
    rcases good_iff_all.1 h with ⟨h1, h2, h3, h4⟩ | h1
    · subst h1; subst h2; subst h3; subst h4; rfl
    · simp only at e; omega
theorem cgood_th {c : Cp} (h : c.good = true) : 0 ≤ c.th ∧ c.th < 48 := by
  obtain ⟨a, b, d, f⟩ := c
  rcases good_iff_all.1 h with ⟨_, h2, _⟩ | h1
  · simp only; omega
  · simp only; omega
theorem cnone_good : Cp.good .none = true := by decide +kernel
theorem fitS_good {s : St} {x : Sl} (h : s.fitS x = true) : x.c.good = true := by
  rw [St.fitS] at h
  split at h
  · rename_i e; rw [non_eq e]; exact cnone_good
  · rw [Bool.and_eq_true] at h; exact h.1
theorem fitS_full {s : St} {x : Sl} (h : s.fitS x = true) (hn : ¬ x.c.non = true) : 0 ≤ x.c.th ∧ x.c.th < s.th.length ∧ (thAt s.th x.c.th.toNat).ty = x.c.ty ∧ -1 ≤ x.up := by
  rw [St.fitS, if_neg hn] at h
  simp only [Bool.and_eq_true, decide_eq_true_eq, beq_iff_eq] at h
  exact h.2
theorem fitS_none {s : St} {x : Sl} (h : s.fitS x = true) (hn : x.c.non = true) : x.up = -1 := by
  rw [St.fitS, if_pos hn] at h
  exact beq_iff_eq.1 h
theorem ring_node {s : St} {i : Nat} (h : ringN s i = true) : (thAt s.th i).ty = 2 := by
  rw [ringN, List.any_eq_true] at h
  obtain ⟨⟨o, y⟩, h1, h2⟩ := h
  rw [Bool.and_eq_true, beq_iff_eq] at h2
  obtain ⟨k, hk, h4, h5, h6⟩ := mem_edges.1 h1
  have := (Tng.hasS_iff.1 (ownerN_some.1 h5).2.1).1
  simp only at h2 this
  rw [h2.1] at this
  exact this
theorem Gst.pst {s : St} (h : Gst s) : Pst s := by
  have hl := h.lens
  have hgood : ∀ i, i < s.sl.length → (slAt s.sl i).c.good = true := fun i hi => by
    have := h.k4 i hi
    rw [St.k4, Bool.and_eq_true] at this
    exact this.1
  have hk4 : ∀ i, i < s.sl.length → ¬ (slAt s.sl i).c.ty = 0 → s.thing4 (slAt s.sl i).c = true ∧ (ownerN s.th i).isSome = true := fun i hi h0 => by
    have := h.k4 i hi
    rw [St.k4, if_neg h0, Bool.and_eq_true, Bool.and_eq_true] at this
    exact this.2
  have hup : ∀ i, i < s.sl.length → (slAt s.sl i).c.ty = 0 → (slAt s.sl i).up = -1 := fun i hi h0 => by
    have := h.k4 i hi
    rw [St.k4, if_pos h0, Bool.and_eq_true, beq_iff_eq] at this
    exact this.2
  have hk6 : ∀ i, i < s.sl.length → ¬ (slAt s.sl i).c.ty = 0 → -1 ≤ (slAt s.sl i).up ∧ ((slAt s.sl i).up < 0 ∨ cameOk (slAt s.sl i).c (slAt s.sl (slAt s.sl i).up.toNat).c = true) := fun i hi h0 => by
    have := h.k6 i hi
    rw [St.k6, decide_eq_false h0, Bool.false_or, Bool.and_eq_true, Bool.or_eq_true, decide_eq_true_eq, decide_eq_true_eq] at this
    exact this
  constructor
  case k1 => exact h.k1
  case p2 => exact h.thok
  case k5 => exact h.k5
  case p5 => exact h.k3
  case p3 =>
    intro i hi
    have hg := hgood i hi
    rw [St.fitS]
    split
    · rename_i e
      rw [hup i hi ((cgood_non hg).1 e)]; rfl
    · rename_i e
      have h0 : ¬ (slAt s.sl i).c.ty = 0 := fun q => e ((cgood_non hg).2 q)
      have h4 := (hk4 i hi h0).1
      rw [St.thing4, Bool.and_eq_true, decide_eq_true_eq] at h4
      rw [hg, decide_eq_true (cgood_th hg).1, decide_eq_true h4.1, h4.2, decide_eq_true (hk6 i hi h0).1]
      rfl
  case p4 =>
    intro i hi
    rw [St.p4, Bool.or_eq_true, beq_iff_eq]
    by_cases h0 : (slAt s.sl i).c.ty = 0
    · exact .inl (hup i hi h0)
    · obtain ⟨h1, h2 | h2⟩ := hk6 i hi h0
      · exact .inl (by omega)
      · exact .inr h2
  case own =>
    intro i hi
    have := h.k2 i hi
    rw [St.k2, Bool.and_eq_true, Bool.and_eq_true, Bool.and_eq_true, St.fits2] at this
    rw [ownOk, hl.1, this.2.1, this.2.2.1]
    rfl
  case p6 =>
    intro i hi
    rw [St.p6, Bool.or_eq_true]
    by_cases h0 : (slAt s.sl i).c.ty = 0
    · exact .inl ((cgood_non (hgood i hi)).2 h0)
    · exact .inr (hk4 i hi h0).2
  case p7 =>
    intro i hi
    have := h.k7 i hi
    rw [Bool.eq_false_iff]
    intro e
    rw [St.k7, e, decide_eq_true (ring_node e), Bool.and_eq_true] at this
    exact absurd this.2 (by decide)
  case p8 =>
    intro i hi
    have := h.k7 i hi
    rw [St.k7, Bool.and_eq_true, Bool.not_eq_true', Bool.and_eq_false_iff, Bool.and_eq_false_iff] at this
    rw [St.p8, Bool.or_eq_true, Bool.or_eq_true, beq_iff_eq]
    rcases this.1 with q | q | q
    · rw [Bool.not_eq_false', decide_eq_true_eq] at q
      exact .inl q
    · rw [Bool.not_eq_false'] at q
      exact .inr (.inr q)
    · refine .inr (.inl ?_)
      rw [List.isEmpty_eq_false_iff_exists_mem] at q
      obtain ⟨k, hk⟩ := q
      obtain ⟨h1, h2, h3⟩ := mem_holdN.1 hk
      rw [heldB, List.any_eq_true]
      refine ⟨k, List.mem_range.2 h1, ?_⟩
      rw [Bool.and_eq_true, beq_iff_eq, Bool.not_eq_true']
      exact ⟨Bool.eq_false_iff.2 fun e => h2 ((cgood_non (hgood k h1)).1 e), h3⟩
  case p9 =>
    intro i hi
    have h1 := h.k2 i hi
    have hs := h.thok.small hi
    rw [St.k2, Bool.and_eq_true, Bool.and_eq_true, Bool.and_eq_true, St.from2, Bool.not_eq_true', Bool.and_eq_false_iff] at h1
    rw [St.p9, Bool.or_eq_true, beq_iff_eq]
    have hf := hs.frm
    rcases h1.2.2.2 with q | q
    · rw [decide_eq_false_iff_not] at q
      exact .inl (by omega)
    · rw [Bool.or_eq_false_iff, decide_eq_false_iff_not] at q
      by_cases h0 : (thAt s.th i).frm = 0
      · exact .inl h0
      · refine .inr ?_
        rw [St.fullB, decide_eq_true (by omega), decide_eq_true (by omega), q.2]
        rfl
theorem Pst.gst {s : St} (h : Pst s) : Gst s := by
  have hl : (s.sl.length : Int) = s.g.s ∧ (s.th.length : Int) = s.g.k := by
    have := h.k1
    rw [St.k1, Bool.and_eq_true, Bool.and_eq_true, decide_eq_true_eq, decide_eq_true_eq] at this
    exact this.2
  have hg : ∀ i, i < s.sl.length → (slAt s.sl i).c.good = true := fun i hi => fitS_good (h.p3 i hi)
  constructor
  case k1 => exact h.k1
  case k3 => exact h.p5
  case k5 => exact h.k5
  case k2 =>
    intro i hi
    have ho := h.own i hi
    have h9 := h.p9 i hi
    have hs := (tng_good.1 (h.p2 i hi)).small
    have hf := hs.frm
    rw [ownOk, hl.1, Bool.and_eq_true] at ho
    rw [St.k2, h.p2 i hi, St.fits2, ho.1, ho.2, St.from2, Bool.true_and, Bool.true_and, Bool.true_and, Bool.not_eq_true', Bool.and_eq_false_iff, Bool.or_eq_false_iff, decide_eq_false_iff_not, decide_eq_false_iff_not]
    rw [St.p9, Bool.or_eq_true, beq_iff_eq] at h9
    rcases h9 with q | q
    · exact .inl (by omega)
    · rw [St.fullB, Bool.and_eq_true, Bool.and_eq_true, decide_eq_true_eq, decide_eq_true_eq, Bool.not_eq_true'] at q
      exact .inr ⟨by omega, q.2.2⟩
  case k4 =>
    intro i hi
    rw [St.k4, hg i hi, Bool.true_and]
    split
    · rename_i e
      rw [fitS_none (h.p3 i hi) ((cgood_non (hg i hi)).2 e)]; rfl
    · rename_i e
      have hn : ¬ (slAt s.sl i).c.non = true := fun q => e ((cgood_non (hg i hi)).1 q)
      obtain ⟨h1, h2, h3, h4⟩ := fitS_full (h.p3 i hi) hn
      have h6 := h.p6 i hi
      rw [St.p6, Bool.eq_false_iff.2 hn, Bool.false_or] at h6
      rw [St.thing4, decide_eq_true h2, h3, h6]
      simp
  case k6 =>
    intro i hi
    rw [St.k6, Bool.or_eq_true, decide_eq_true_eq]
    by_cases e : (slAt s.sl i).c.ty = 0
    · exact .inl e
    · refine .inr ?_
      have hn : ¬ (slAt s.sl i).c.non = true := fun q => e ((cgood_non (hg i hi)).1 q)
      obtain ⟨h1, h2, h3, h4⟩ := fitS_full (h.p3 i hi) hn
      have h6 := h.p4 i hi
      rw [St.p4, Bool.or_eq_true, beq_iff_eq] at h6
      rw [Bool.and_eq_true, Bool.or_eq_true, decide_eq_true_eq, decide_eq_true_eq]
      exact ⟨h4, h6.imp (fun q => by omega) id⟩
  case k7 =>
    intro i hi
    have h8 := h.p8 i hi
    rw [St.k7, h.p7 i hi, Bool.and_false, Bool.not_false, Bool.and_true, Bool.not_eq_true', Bool.and_eq_false_iff, Bool.and_eq_false_iff, Bool.not_eq_false', Bool.not_eq_false', decide_eq_true_eq]
    rw [St.p8, Bool.or_eq_true, Bool.or_eq_true, beq_iff_eq] at h8
    rcases h8 with q | q | q
    · exact .inl q
    · refine .inr (.inr ?_)
      rw [heldB, List.any_eq_true] at q
      obtain ⟨k, hk, hq⟩ := q
      rw [Bool.and_eq_true, beq_iff_eq, Bool.not_eq_true'] at hq
      rw [List.mem_range] at hk
      rw [List.isEmpty_eq_false_iff_exists_mem]
      exact ⟨k, mem_holdN.2 ⟨hk, fun e => absurd ((cgood_non (hg k hk)).2 e) (by rw [hq.1]; decide), hq.2⟩⟩
    · exact .inr (.inl q)
theorem sgood_pst {s : St} : sgood s = true ↔ Pst s := sgood_iff.trans ⟨Gst.pst, Pst.gst⟩
theorem Pst.yes {s : St} (h : Pst s) : sgood s = true := sgood_pst.2 h
theorem sgood_no {s : St} (h : ¬ Pst s) : sgood s = false := Bool.eq_false_iff.2 fun e => h (sgood_pst.1 e)

/-! ### Nodes in Nodes, each gone into once -/
/-- reached by at least one step -/
def Rp (E : List (Nat × Nat)) (t k : Nat) : Prop := ∃ x, (t, x) ∈ E ∧ Rch E x k
theorem rch_head {E : List (Nat × Nat)} {a b c : Nat} (h : (a, b) ∈ E) (k : Rch E b c) : Rch E a c := by
  induction k with
  | self => exact .step .self h
  | step _ he ih => exact .step ih he
theorem rch_rp {E : List (Nat × Nat)} {a c : Nat} (k : Rch E a c) : a = c ∨ Rp E a c := by
  induction k with
  | self => exact .inl rfl
  | @step x y hx he ih =>
    rcases ih with rfl | ⟨z, h1, h2⟩
    · exact .inr ⟨_, he, .self⟩
    · exact .inr ⟨z, h1, .step h2 he⟩
theorem rp_rch {E : List (Nat × Nat)} {a c : Nat} (k : Rp E a c) : Rch E a c := by
  obtain ⟨x, h1, h2⟩ := k
  exact rch_head h1 h2
/-- what one search may leave, where the nodes D that stand in t have been looked at -/
structure Dfs (E : List (Nat × Nat)) (t : Nat) (D : Nat → Prop) (u v : Nat → Bool) : Prop where
  le : ∀ k, u k = true → v k = true
  only : ∀ k, v k = true → u k = true ∨ Rp E t k
  seen : ∀ y, D y → v y = true
  shut : ∀ x y, v x = true → u x = false → (x, y) ∈ E → v y = true
theorem Dfs.refl (E : List (Nat × Nat)) (t : Nat) (u : Nat → Bool) : Dfs E t (fun _ => False) u u :=
  ⟨fun _ h => h, fun _ h => .inl h, fun _ h => h.elim, fun x y h1 h2 _ => by rw [h1] at h2; cases h2⟩
theorem Dfs.more {E : List (Nat × Nat)} {t : Nat} {D D' : Nat → Prop} {u v : Nat → Bool} (h : Dfs E t D u v) (hD : ∀ y, D' y → v y = true) : Dfs E t D' u v := ⟨h.le, h.only, hD, h.shut⟩
def mark (u : Nat → Bool) (x : Nat) : Nat → Bool := fun j => j == x || u j
theorem mark_self (u : Nat → Bool) (x : Nat) : mark u x x = true := by simp [mark]
theorem mark_le {u : Nat → Bool} {x k : Nat} (h : u k = true) : mark u x k = true := by simp [mark, h]
theorem mark_of {u : Nat → Bool} {x k : Nat} (h : mark u x k = true) : k = x ∨ u k = true := by simpa [mark] using h
theorem Dfs.into {E : List (Nat × Nat)} {t x : Nat} {D : Nat → Prop} {u v z : Nat → Bool} (h : Dfs E t D u v) (he : (t, x) ∈ E) (hs : Dfs E x (fun y => (x, y) ∈ E) (mark v x) z) : Dfs E t (fun y => D y ∨ y = x) u z := by
  refine ⟨fun k hk => hs.le k (mark_le (h.le k hk)), fun k hk => ?_, fun y hy => ?_, fun a b ha hu hab => ?_⟩
  · rcases hs.only k hk with q | q
    · rcases mark_of q with rfl | q
      · exact .inr ⟨_, he, .self⟩
      · exact h.only k q
    · exact .inr ⟨x, he, rp_rch q⟩
  · rcases hy with q | rfl
    · exact hs.le y (mark_le (h.seen y q))
    · exact hs.le y (mark_self v y)
  · rcases hm : mark v x a with _ | _
    · exact hs.shut a b ha hm hab
    · rcases mark_of hm with rfl | q
      · exact hs.seen b hab
      · exact hs.le b (mark_le (h.shut a b q hu hab))
theorem Dfs.all {E : List (Nat × Nat)} {t : Nat} {v : Nat → Bool} (h : Dfs E t (fun y => (t, y) ∈ E) (fun _ => false) v) (k : Nat) : v k = true ↔ Rp E t k := by
  constructor
  · intro q
    rcases h.only k q with e | e
    · cases e
    · exact e
  · rintro ⟨x, h1, h2⟩
    induction h2 with
    | self => exact h.seen _ h1
    | step _ he ih => exact h.shut _ _ ih rfl he
theorem kmany_mark {n x : Nat} {u : Nat → Bool} (hx : x < n) (h : u x = false) : kmany n u < kmany n (mark u x) := by
  unfold kmany
  exact kfilter_more (l := List.range n) (fun k => mark_le) (List.mem_range.2 hx) h (mark_self u x)
theorem kmany_mono {n : Nat} {u v : Nat → Bool} (h : ∀ k, u k = true → v k = true) : kmany n u ≤ kmany n v := by
  unfold kmany
  exact kfilter_lt (l := List.range n) h
/-- the edges, where all Nodes name what is there -/
theorem edges_lt {s : St} (hN : NdIn s) {e : Nat × Nat} (h : e ∈ edgesN s.th s.sl) : e.1 < s.th.length ∧ e.2 < s.th.length := by
  obtain ⟨i, hi, h2, h3, h4⟩ := mem_edges.1 h
  have := hN i hi h2
  exact ⟨ownerN_lt h3, by omega⟩
theorem under_rch {s : St} (hN : NdIn s) {a : Nat} (ha : a < s.th.length) (k : Nat) : underN s a k = true ↔ Rch (edgesN s.th s.sl) a k := krounds_reach (fun _ he => (edges_lt hN he).2) ha k
theorem ring_rp {s : St} (hN : NdIn s) (a : Nat) : ringN s a = true ↔ Rp (edgesN s.th s.sl) a a := by
  rw [ringN, List.any_eq_true]
  constructor
  · rintro ⟨⟨o, y⟩, h1, h2⟩
    rw [Bool.and_eq_true, beq_iff_eq] at h2
    obtain ⟨rfl, h3⟩ := h2
    exact ⟨y, h1, (under_rch hN (edges_lt hN h1).2 _).1 h3⟩
  · rintro ⟨y, h1, h2⟩
    exact ⟨(a, y), h1, by rw [Bool.and_eq_true, beq_iff_eq]; exact ⟨rfl, (under_rch hN (edges_lt hN h1).2 _).2 h2⟩⟩
/-- the slots of a Node, where no two have one in common -/
def NoMeet (th : List Tng) : Prop := ∀ i k, i < th.length → k < i → (thAt th i).meets (thAt th k) = false
theorem owner_has {th : List Tng} (hM : NoMeet th) {i : Nat} {k : Int} (hi : i < th.length) (h : (thAt th i).hasS k = true) : ownerN th k = some i := by
  refine ownerN_some.2 ⟨hi, h, fun j hj => ?_⟩
  rcases hq : (thAt th j).hasS k with _ | _
  · rfl
  · exfalso
    have h1 := Tng.hasS_iff.1 h
    have h2 := Tng.hasS_iff.1 hq
    have h3 := hM i j hi hj
    rw [Tng.meets, h1.1, h2.1, decide_eq_true (by omega), decide_eq_true (by omega)] at h3
    cases h3
theorem edge_of {s : St} (hM : NoMeet s.th) {t i : Nat} (ht : t < s.th.length) (hi : i < s.sl.length) (hh : (thAt s.th t).hasS i = true) (h2 : (slAt s.sl i).c.ty = 2) : (t, (slAt s.sl i).c.th.toNat) ∈ edgesN s.th s.sl := mem_edges.2 ⟨i, hi, h2, owner_has hM ht hh, rfl⟩
theorem of_edge {s : St} {t y : Nat} (h : (t, y) ∈ edgesN s.th s.sl) : ∃ i, i < s.sl.length ∧ (slAt s.sl i).c.ty = 2 ∧ (thAt s.th t).hasS i = true ∧ (slAt s.sl i).c.th.toNat = y := by
  obtain ⟨i, hi, h2, h3, h4⟩ := mem_edges.1 h
  exact ⟨i, hi, h2, (ownerN_some.1 h3).2.1, h4⟩
end Go.Proofs.YtkpbfbmkolgmgaaGreat
namespace Go.Proofs.YtkpbfbmkolgmgaaGreat
open Go.RowKit

theorem isslot_at {a b c i : Int} {A C : Option Addr} {n ca m cc : Nat} {r : Bool} (h : (decide (0 ≤ i) && decide (i < (n : Int))) = r) (w : World) :
    Calls Tryz.prog 152 #[.agg #[.int .i64 a, .int .i64 b, .int .i64 c, .slice A n ca, .slice C m cc], .int .i64 i] w fun e w' => e = .returned (.bool r) ∧ Below w.heap.size w w' := by
  by_cases h1 : 0 ≤ i
  · by_cases h2 : i < (n : Int)
    · rw [decide_eq_true h1, decide_eq_true h2] at h
      subst h
      go_enter Tryz.func152, Tryz.ntmps152
      go_wp2
      go_ret
      exact ⟨rfl, below_alloc _ _⟩
    · have h3 : decide (i < (n : Int)) = false := decide_eq_false h2
      rw [decide_eq_true h1, h3] at h
      subst h
      go_enter Tryz.func152, Tryz.ntmps152
      go_wp2
      go_ret
      exact ⟨rfl, below_alloc _ _⟩
  · have h3 : decide (0 ≤ i) = false := decide_eq_false h1
    rw [h3] at h
    subst h
    go_enter Tryz.func152, Tryz.ntmps152
    go_wp2
    go_ret
    exact ⟨rfl, below_alloc _ _⟩
theorem isthing_at {a b c i : Int} {A C : Option Addr} {n ca m cc : Nat} {r : Bool} (h : (decide (0 ≤ i) && decide (i < (m : Int))) = r) (w : World) :
    Calls Tryz.prog 147 #[.agg #[.int .i64 a, .int .i64 b, .int .i64 c, .slice A n ca, .slice C m cc], .int .i64 i] w fun e w' => e = .returned (.bool r) ∧ Below w.heap.size w w' := by
  by_cases h1 : 0 ≤ i
  · by_cases h2 : i < (m : Int)
    · rw [decide_eq_true h1, decide_eq_true h2] at h
      subst h
      go_enter Tryz.func147, Tryz.ntmps147
      go_wp2
      go_ret
      exact ⟨rfl, below_alloc _ _⟩
    · have h3 : decide (i < (m : Int)) = false := decide_eq_false h2
      rw [decide_eq_true h1, h3] at h
      subst h
      go_enter Tryz.func147, Tryz.ntmps147
      go_wp2
      go_ret
      exact ⟨rfl, below_alloc _ _⟩
  · have h3 : decide (0 ≤ i) = false := decide_eq_false h1
    rw [h3] at h
    subst h
    go_enter Tryz.func147, Tryz.ntmps147
    go_wp2
    go_ret
    exact ⟨rfl, below_alloc _ _⟩
theorem isfull_at {s : St} {a b c : Int} {A C : Option Addr} {n ca m cc : Nat} {i : Int} {r : Bool} {w : World} (hS : StAt w s A C) (hn : n = s.sl.length) (h : s.fullB i = r) :
    Calls Tryz.prog 89 #[.agg #[.int .i64 a, .int .i64 b, .int .i64 c, .slice A n ca, .slice C m cc], .int .i64 i] w fun e w' => e = .returned (.bool r) ∧ Below w.heap.size w w' := by
  have hK := Sbx.new w a b c A n ca C m cc 27
  rw [St.fullB, ← hn] at h
  have HN := Lib.hid hn
  have HS := Lib.hid hS
  by_cases hi : 0 ≤ i ∧ i < (n : Int)
  · have HI : Hid ((decide (0 ≤ i) && decide (i < (n : Int))) = true) := Lib.hid (by rw [decide_eq_true hi.1, decide_eq_true hi.2]; rfl)
    rw [decide_eq_true hi.1, decide_eq_true hi.2, Bool.true_and, Bool.true_and] at h
    obtain ⟨k, rfl⟩ : ∃ k : Nat, i = k := ⟨i.toNat, by omega⟩
    rw [Int.toNat_natCast] at h
    have hkn : k < n := by omega
    obtain ⟨sb, sp, rfl, hsb, hc⟩ := hS.sl (by rw [← hn]; omega)
    have hT := hc k (by rw [← hn]; exact hkn)
    generalize slAt s.sl k = y at hT h
    obtain ⟨⟨ty, th, ri, ba⟩, up⟩ := y
    obtain ⟨s0, s1, s2, s3, -⟩ := hT
    simp only at s0 s1 s2 s3 h
    have HNON : Hid (Cp.non ⟨ty, th, ri, ba⟩ = !r) := Lib.hid (by rw [← h, Bool.not_not])
    have hkn2 : (k : Int) < (n : Int) := hi.2
    clear hc h hS hn hi hkn
    go_enter Tryz.func89, Tryz.ntmps89
    go_wp2_with fail
    have hv : Below w.heap.size w (w.alloc (.cells #[.int .i64 a, .int .i64 b, .int .i64 c, .slice (some ⟨sb, sp, none⟩) n ca, .slice C m cc] 27)) := below_alloc _ _
    generalize w.alloc _ = w1 at hK hv ⊢
    refine (isslot_at HI.out w1).mono ?_
    rintro e w2 ⟨rfl, hb⟩
    have HK2 := Lib.hid (hK.on hb)
    have hw2 := below_on hv hb
    replace s0 := (hw2.cell (p := ⟨sb, _, none⟩) hsb).trans s0
    replace s1 := (hw2.cell (p := ⟨sb, _, none⟩) hsb).trans s1
    replace s2 := (hw2.cell (p := ⟨sb, _, none⟩) hsb).trans s2
    replace s3 := (hw2.cell (p := ⟨sb, _, none⟩) hsb).trans s3
    clear hK hv hb hw2
    obtain ⟨b0, b1, b2, c3, c4, -, -, lt⟩ := HK2.out
    go_wp2_with fail
    refine (non_at HNON.out w2).mono ?_
    rintro e w3 ⟨rfl, hb⟩
    have HB3 := Lib.hid (HK2.out.on hb)
    clear hb s0 s1 s2 s3 b0 b1 b2 c3 c4
    rcases r with _ | _
    · go_wp2
      go_ret
      exact ⟨rfl, HB3.out.old⟩
    · go_wp2
      go_ret
      exact ⟨rfl, HB3.out.old⟩
  · have HI : Hid ((decide (0 ≤ i) && decide (i < (n : Int))) = false) := Lib.hid (by rw [Bool.and_eq_false_iff, decide_eq_false_iff_not, decide_eq_false_iff_not]; omega)
    have hr : r = false := by
      rw [← h, ← Bool.and_assoc, HI.out, Bool.false_and]
    subst hr
    clear h hS hn hi
    go_enter Tryz.func89, Tryz.ntmps89
    go_wp2_with fail
    generalize w.alloc _ = w1 at hK ⊢
    refine (isslot_at HI.out w1).mono ?_
    rintro e w2 ⟨rfl, hb⟩
    have HK2 := Lib.hid (hK.on hb)
    clear hK hb
    go_wp2
    go_ret
    exact ⟨rfl, HK2.out.old⟩
theorem isthere_at {s : St} {a b c : Int} {A C : Option Addr} {n ca m cc : Nat} {i : Nat} {r : Bool} {w : World} (hS : StAt w s A C) (hm : m = s.th.length) (hi : i < m) (h : ((thAt s.th i).ty != 0) = r) :
    Calls Tryz.prog 91 #[.agg #[.int .i64 a, .int .i64 b, .int .i64 c, .slice A n ca, .slice C m cc], .int .i64 (i : Int)] w fun e w' => e = .returned (.bool r) ∧ Below w.heap.size w w' := by
  obtain ⟨tb, tp, rfl, htb, hc⟩ := hS.th (by rw [← hm]; omega)
  have t0 := (hc i (by rw [← hm]; exact hi)).c0
  have hi2 : (i : Int) < (m : Int) := by omega
  generalize (thAt s.th i).ty = y at t0 h
  clear hS hm hc hi
  go_enter Tryz.func91, Tryz.ntmps91
  go_wp2
  go_ret
  exact ⟨by rw [← h]; rfl, below_alloc _ _⟩
theorem isroot_at {a b c : Int} {i : Nat} {r : Bool} (h : (decide (2 ≤ i) && decide ((i : Int) < 2 + a)) = r) (ha : 0 ≤ a ∧ a ≤ 1000) (w : World) :
    Calls Tryz.prog 92 #[.agg #[.int .i64 a, .int .i64 b, .int .i64 c], .int .i64 (i : Int)] w fun e w' => e = .returned (.bool r) ∧ Below w.heap.size w w' := by
  have ew : wrap64 (2 + a) = 2 + a := w64_in (by omega) (by omega)
  by_cases h1 : 2 ≤ i
  · have h1' : (2 : Int) ≤ (i : Int) := by omega
    by_cases h2 : (i : Int) < 2 + a
    · rw [decide_eq_true h1, decide_eq_true h2] at h
      subst h
      go_enter Tryz.func92, Tryz.ntmps92
      go_wp2
      go_ret
      exact ⟨rfl, below_alloc _ _⟩
    · have h3 : decide ((i : Int) < 2 + a) = false := decide_eq_false h2
      rw [decide_eq_true h1, h3] at h
      subst h
      go_enter Tryz.func92, Tryz.ntmps92
      go_wp2
      go_ret
      exact ⟨rfl, below_alloc _ _⟩
  · have h3 : decide ((2 : Int) ≤ (i : Int)) = false := decide_eq_false (by omega)
    rw [decide_eq_false h1] at h
    subst h
    go_enter Tryz.func92, Tryz.ntmps92
    go_wp2
    go_ret
    exact ⟨rfl, below_alloc _ _⟩
/-! ### span -/
def Tng.lo (t : Tng) : Int := if t.ty = 2 then t.base else 0
def Tng.hi (t : Tng) : Int := if t.ty = 2 then t.base + tw2 t.bits else 0
theorem good_bits {t : Tng} (h : t.good = true) (h2 : t.ty = 2) : 1 ≤ t.bits ∧ t.bits ≤ 4 ∧ 0 ≤ t.base ∧ t.base ≤ 96 - tw2 t.bits := by
  cases tng_good.1 h with
  | node b s q1 q2 q3 q4 => exact ⟨q1, q2, q3, q4⟩
  | _ => simp [Tng.of] at h2
theorem span_at {ty bits base size used frm badge : Int} {full : Bool} {word d0 d1 d2 d3 : Nat} {x y : Int} (hg : Tng.good ⟨ty, bits, base, size, used, frm, badge, full, word, d0, d1, d2, d3⟩ = true) (hx : Tng.lo ⟨ty, bits, base, size, used, frm, badge, full, word, d0, d1, d2, d3⟩ = x) (hy : Tng.hi ⟨ty, bits, base, size, used, frm, badge, full, word, d0, d1, d2, d3⟩ = y) (w : World) :
    Calls Tryz.prog 151 #[.agg #[.int .i64 ty, .int .i64 bits, .int .i64 base, .int .i64 size, .int .i64 used, .int .i64 frm, .int .i64 badge, .bool full, .int .u64 (word : Int), .int .u64 (d0 : Int), .int .u64 (d1 : Int), .int .u64 (d2 : Int), .int .u64 (d3 : Int)]] w fun e w' => e = .returned (.tuple #[.int .i64 x, .int .i64 y]) ∧ Below w.heap.size w w' := by
  have hK := Tbx.new w ⟨ty, bits, base, size, used, frm, badge, full, word, d0, d1, d2, d3⟩ 67
  rw [Tng.lo] at hx
  rw [Tng.hi] at hy
  simp only at hx hy
  by_cases h2 : ty = 2
  · have hb := good_bits hg h2
    simp only at hb
    subst h2
    rw [if_pos rfl] at hx hy
    subst hx
    have h4 : bits = 1 ∨ bits = 2 ∨ bits = 3 ∨ bits = 4 := by omega
    have h5 : 0 ≤ base ∧ base ≤ 96 := by have := tw2_pos bits; omega
    have h6 := h5.1
    have h7 := h5.2
    have HO := Lib.hid hK.old
    unfold tcells at *
    simp only at hK
    obtain ⟨c0, c1, c2, -, -, -, -, -, -, -, -, -, -, -, -, -, lt⟩ := hK
    simp only at c0 c1 c2
    clear hb hg h5
    rcases h4 with rfl | rfl | rfl | rfl
    all_goals
      subst hy
      go_enter Tryz.func151, Tryz.ntmps151
      go_wp2_with fail
      generalize w.alloc _ = w1 at c0 c1 c2 lt HO ⊢
      go_quiet (fail)
      go_wp2
      go_ret2
      exact ⟨by rfl, below_draws HO.out _⟩
  · rw [if_neg h2] at hx hy
    subst hx hy
    have h4 : (ty != 2) = true := by simpa using h2
    go_enter Tryz.func151, Tryz.ntmps151
    go_wp2
    go_ret2
    exact ⟨rfl, below_alloc _ _⟩
/-! ### rootOf -/
theorem rootof_at {a b c : Int} {i : Nat} (hk : Gd.ok ⟨a, b, c⟩ = true) (hi : (i : Int) < a) (w : World) :
    Calls Tryz.prog 87 #[.agg #[.int .i64 a, .int .i64 b, .int .i64 c], .int .i64 (i : Int)] w fun e w' => e = .returned (rootT i).val ∧ Below w.heap.size w w' := by
  have hroot : Gd.root ⟨a, b, c⟩ (i : Int) = (i : Int) * 8 := by rw [Gd.root, if_pos (Gd.has_iff.2 ⟨hk, by omega, by simp only; omega⟩)]
  have HR := Lib.hid hroot
  have hK : Bx ((w.alloc (.cells #[.int .i64 a, .int .i64 b, .int .i64 c] 23)).alloc (.cells #[.int .i64 0, .int .i64 0, .int .i64 0, .int .i64 0, .int .i64 0, .int .i64 0, .int .i64 0, .bool false, .int .u64 0, .int .u64 0, .int .u64 0, .int .u64 0, .int .u64 0] 67)) w.heap.size ⟨a, b, c⟩ := (Bx.new w ⟨a, b, c⟩ 23).on (below_alloc _ _)
  have hZ : Tbx (w.alloc (.cells #[.int .i64 a, .int .i64 b, .int .i64 c] 23)) ((w.alloc (.cells #[.int .i64 a, .int .i64 b, .int .i64 c] 23)).alloc (.cells #[.int .i64 0, .int .i64 0, .int .i64 0, .int .i64 0, .int .i64 0, .int .i64 0, .int .i64 0, .bool false, .int .u64 0, .int .u64 0, .int .u64 0, .int .u64 0, .int .u64 0] 67)) (w.alloc (.cells #[.int .i64 a, .int .i64 b, .int .i64 c] 23)).heap.size .zero := Tbx.new _ .zero 67
  have hs : (w.alloc (.cells #[.int .i64 a, .int .i64 b, .int .i64 c] 23)).heap.size = w.heap.size + 1 := by simp
  have hB : Below w.heap.size w ((w.alloc (.cells #[.int .i64 a, .int .i64 b, .int .i64 c] 23)).alloc (.cells #[.int .i64 0, .int .i64 0, .int .i64 0, .int .i64 0, .int .i64 0, .int .i64 0, .int .i64 0, .bool false, .int .u64 0, .int .u64 0, .int .u64 0, .int .u64 0, .int .u64 0] 67)) := below_on (below_alloc _ _) (below_alloc _ _)
  rw [hs] at hZ
  clear hs hroot hk hi
  go_enter Tryz.func87, Tryz.ntmps87
  go_wp2_with fail
  generalize (w.alloc (.cells #[.int .i64 a, .int .i64 b, .int .i64 c] 23)).alloc (.cells #[.int .i64 0, .int .i64 0, .int .i64 0, .int .i64 0, .int .i64 0, .int .i64 0, .int .i64 0, .bool false, .int .u64 0, .int .u64 0, .int .u64 0, .int .u64 0, .int .u64 0] 67) = w1 at hK hZ hB ⊢
  obtain ⟨g0, g1, g2, glt⟩ := hK
  simp only at g0 g1 g2
  go_wp2_with fail
  refine (root_to HR.out w1).mono ?_
  rintro e w2 ⟨rfl, hb⟩
  have hZ2 := hZ.on hb
  have HO := Lib.hid (below_on hB hb)
  obtain ⟨c0, c1, c2, c3, c4, c5, c6, c7, c8, c9, c10, c11, c12, hf, _, _, lt⟩ := hZ2
  simp only [Tng.zero, Tng.of, Int.ofNat_zero] at c0 c1 c2 c3 c4 c5 c6 c7 c8 c9 c10 c11 c12
  have f0 := hf 0
  have f1 := hf 1
  have f2 := hf 2
  have f3 := hf 3
  have f4 := hf 4
  have f5 := hf 5
  have f6 := hf 6
  have f7 := hf 7
  have f8 := hf 8
  have f9 := hf 9
  have f10 := hf 10
  have f11 := hf 11
  have f12 := hf 12
  clear hZ hB hb HR hf g0 g1 g2 glt
  go_wp2
  refine bodyPost_ret (by simp [results, Tryz.results87, go_sem, c0, c1, c2, c3, c4, c5, c6, c7, c8, c9, c10, c11, c12]; rfl) rfl ?_
  exact ⟨by rw [Int.mul_comm]; rfl, below_put HO.out (by omega) _ _ _ _ _ _ _ _ _ _ _ _ _⟩
/-! ### mayComeOf -/
theorem cless_at {a b d f a' b' d' f' : Int} {z : Bool} (h : Cp.less ⟨a, b, d, f⟩ ⟨a', b', d', f'⟩ = z) (w : World) : Calls Tryz.prog 149 #[.agg #[.int .i64 a, .int .i64 b, .int .i64 d, .int .i64 f], .agg #[.int .i64 a', .int .i64 b', .int .i64 d', .int .i64 f']] w fun e w' => e = .returned (.bool z) ∧ Below w.heap.size w w' := h ▸ cless_any _ _ w
theorem came_at {a0 a1 a2 a3 b0 b1 b2 b3 : Int} {r : Bool} (h : cameOk ⟨a0, a1, a2, a3⟩ ⟨b0, b1, b2, b3⟩ = r) (w : World) :
    Calls Tryz.prog 86 #[.agg #[.int .i64 a0, .int .i64 a1, .int .i64 a2, .int .i64 a3], .agg #[.int .i64 b0, .int .i64 b1, .int .i64 b2, .int .i64 b3]] w fun e w' => e = .returned (.bool r) ∧ Below w.heap.size w w' := by
  obtain ⟨x, hx⟩ : ∃ z, Cp.less ⟨a0, a1, a2, a3⟩ ⟨b0, b1, b2, b3⟩ = z := ⟨_, rfl⟩
  have HX := Lib.hid hx
  have hK := (Fr.new w a0 a1 a2 a3 62).alloc (.cells #[.int .i64 b0, .int .i64 b1, .int .i64 b2, .int .i64 b3] 62)
  have hJ := Fr.also (W := w) (w := w.alloc (.cells #[.int .i64 a0, .int .i64 a1, .int .i64 a2, .int .i64 a3] 62)) (below_alloc _ _) b0 b1 b2 b3 62
  rw [show (w.alloc (.cells #[.int .i64 a0, .int .i64 a1, .int .i64 a2, .int .i64 a3] 62)).heap.size = w.heap.size + 1 by simp] at hJ
  rw [cameOk, hx] at h
  simp only at h
  clear hx
  go_enter Tryz.func86, Tryz.ntmps86
  go_wp2_with fail
  generalize (w.alloc (.cells #[.int .i64 a0, .int .i64 a1, .int .i64 a2, .int .i64 a3] 62)).alloc (.cells #[.int .i64 b0, .int .i64 b1, .int .i64 b2, .int .i64 b3] 62) = w1 at hK hJ ⊢
  refine (cless_at HX.out w1).mono ?_
  rintro e w2 ⟨rfl, hb⟩
  have K2 := Lib.hid (hK.on hb)
  have J2 := Lib.hid (hJ.on hb)
  clear hK hJ hb
  rcases x with _ | _
  · have c1 := K2.out.c1
    have d0 := J2.out.c0
    have d1 := J2.out.c1
    rw [Bool.false_or] at h
    by_cases h1 : b0 = 1
    · subst h1
      rw [beq_self_eq_true, Bool.true_and] at h
      have h3 : (a1 != b1) = r := by rw [← h]; show (!(a1 == b1)) = _; rw [Bool.beq_comm]
      rcases r with _ | _
      · go_wp2
        go_ret
        exact ⟨rfl, K2.out.old⟩
      · go_wp2
        go_ret
        exact ⟨rfl, K2.out.old⟩
    · have h2 : (b0 == 1) = false := beq_eq_false_iff_ne.2 h1
      rw [h2, Bool.false_and] at h
      subst h
      go_wp2
      go_ret
      exact ⟨rfl, K2.out.old⟩
  · rw [Bool.true_or] at h
    subst h
    go_wp2
    go_ret
    exact ⟨rfl, K2.out.old⟩
/-! ### counted -/
theorem counted_at {s : St} {a b c : Int} {A C : Option Addr} {n ca m cc : Nat} {r : Bool} (hg : s.g = ⟨a, b, c⟩) (hn : n = s.sl.length) (hm : m = s.th.length) (h : s.k1 = r) (w : World) :
    Calls Tryz.prog 36 #[.agg #[.int .i64 a, .int .i64 b, .int .i64 c, .slice A n ca, .slice C m cc]] w fun e w' => e = .returned (.bool r) ∧ Below w.heap.size w w' := by
  have hK := Sbx.new w a b c A n ca C m cc 27
  rw [St.k1, hg, ← hn, ← hm] at h
  simp only at h
  obtain ⟨x, hx⟩ : ∃ z, Gd.ok ⟨a, b, c⟩ = z := ⟨_, rfl⟩
  rw [hx] at h
  have HX := Lib.hid hx
  clear hg hn hm hx
  go_enter Tryz.func36, Tryz.ntmps36
  go_wp2_with fail
  generalize w.alloc _ = w1 at hK ⊢
  have HK1 := Lib.hid hK
  obtain ⟨b0, b1, b2, c3, c4, -, -, lt⟩ := hK
  go_wp2_with fail
  refine (good_to HX.out w1).mono ?_
  rintro e w2 ⟨rfl, hb⟩
  have HK2 := Lib.hid (HK1.out.on hb)
  clear hb b0 b1 b2 c3 c4 lt
  obtain ⟨b0, b1, b2, c3, c4, -, -, lt⟩ := HK2.out
  rcases x with _ | _
  · rw [Bool.false_and] at h
    subst h
    go_wp2
    go_ret
    exact ⟨rfl, HK2.out.old⟩
  · rw [Bool.true_and] at h
    by_cases h1 : (n : Int) = b
    · rw [decide_eq_true h1, Bool.true_and] at h
      by_cases h2 : (m : Int) = c
      · rw [decide_eq_true h2] at h
        subst h1 h2 h
        go_wp2
        go_ret
        exact ⟨rfl, HK2.out.old⟩
      · rw [decide_eq_false h2] at h
        have h3 : ((m : Int) == c) = false := beq_eq_false_iff_ne.2 h2
        subst h1 h
        go_wp2
        go_ret
        exact ⟨rfl, HK2.out.old⟩
    · rw [decide_eq_false h1, Bool.false_and] at h
      have h3 : ((n : Int) == b) = false := beq_eq_false_iff_ne.2 h1
      subst h
      go_wp2
      go_ret
      exact ⟨rfl, HK2.out.old⟩
/-! ### slotFits -/
/-- a slot in a box of its own -/
structure Slx (w : World) (P : Nat) (x : Sl) : Prop where
  c0 : w.cell? ⟨P, 0, none⟩ = some (.int .i64 x.c.ty)
  c1 : w.cell? ⟨P, 1, none⟩ = some (.int .i64 x.c.th)
  c2 : w.cell? ⟨P, 2, none⟩ = some (.int .i64 x.c.ri)
  c3 : w.cell? ⟨P, 3, none⟩ = some (.int .i64 x.c.ba)
  c4 : w.cell? ⟨P, 4, none⟩ = some (.int .i64 x.up)
  lt : P < w.heap.size
theorem Slx.on {w w' : World} {P : Nat} {x : Sl} (h : Slx w P x) (hb : Below w.heap.size w w') : Slx w' P x := by
  have e : ∀ k, w'.cell? ⟨P, k, none⟩ = w.cell? ⟨P, k, none⟩ := fun k => hb.cell (p := ⟨P, k, none⟩) h.lt
  exact ⟨(e _).trans h.c0, (e _).trans h.c1, (e _).trans h.c2, (e _).trans h.c3, (e _).trans h.c4, Nat.lt_of_lt_of_le h.lt hb.size⟩
theorem Slx.new (w : World) (ty th ri ba up : Int) (t : TypeId) : Slx (w.alloc (.cells #[.int .i64 ty, .int .i64 th, .int .i64 ri, .int .i64 ba, .int .i64 up] t)) w.heap.size ⟨⟨ty, th, ri, ba⟩, up⟩ := by
  have hg := heap_alloc_new w (.cells #[.int .i64 ty, .int .i64 th, .int .i64 ri, .int .i64 ba, .int .i64 up] t)
  constructor
  case lt => simp
  all_goals (rw [cell_of_row _ _ _ _ _ _ hg]; rfl)
set_option maxHeartbeats 4000000 in
theorem slotfits_at {s : St} {a b c : Int} {A C : Option Addr} {n ca m cc : Nat} {ty th ri ba up : Int} {r : Bool} {w : World} (hS : StAt w s A C) (hm : m = s.th.length) (h : s.fitS ⟨⟨ty, th, ri, ba⟩, up⟩ = r) :
    Calls Tryz.prog 82 #[.agg #[.int .i64 a, .int .i64 b, .int .i64 c, .slice A n ca, .slice C m cc], .agg #[.int .i64 ty, .int .i64 th, .int .i64 ri, .int .i64 ba, .int .i64 up]] w fun e w' => e = .returned (.bool r) ∧ Below w.heap.size w w' := by
  have hK := (Sbx.new w a b c A n ca C m cc 27).on (below_alloc _ (.cells #[.int .i64 ty, .int .i64 th, .int .i64 ri, .int .i64 ba, .int .i64 up] 64))
  have hX := Slx.new (w.alloc (.cells #[.int .i64 a, .int .i64 b, .int .i64 c, .slice A n ca, .slice C m cc] 27)) ty th ri ba up 64
  rw [show (w.alloc (.cells #[.int .i64 a, .int .i64 b, .int .i64 c, .slice A n ca, .slice C m cc] 27)).heap.size = w.heap.size + 1 by simp] at hX
  obtain ⟨z, hz⟩ : ∃ z, Cp.non ⟨ty, th, ri, ba⟩ = z := ⟨_, rfl⟩
  rw [St.fitS, hz, ← hm] at h
  simp only at h
  have HZ := Lib.hid hz
  have HM := Lib.hid hm
  have HS := Lib.hid hS
  clear hz hm hS
  obtain ⟨g, hg⟩ : ∃ g, g = w.heap.size := ⟨_, rfl⟩
  obtain ⟨P, hP⟩ : ∃ P, P = g + 1 := ⟨_, rfl⟩
  rw [← hg] at hK
  rw [← hg, ← hP] at hX
  go_enter Tryz.func82, Tryz.ntmps82
  go_wp2_with fail
  rw [← hg, ← hP]
  clear hg hP
  generalize (w.alloc _).alloc _ = w1 at hK hX ⊢
  have HK1 := Lib.hid hK
  have HX1 := Lib.hid hX
  obtain ⟨s0, s1, s2, s3, s4, slt⟩ := hX
  simp only at s0 s1 s2 s3 s4
  clear hK
  go_wp2_with fail
  refine (non_at HZ.out w1).mono ?_
  rintro e w2 ⟨rfl, hb⟩
  have HK2 := Lib.hid (HK1.out.on hb)
  have HX2 := Lib.hid (HX1.out.on hb)
  clear hb s0 s1 s2 s3 s4 slt HK1 HX1
  obtain ⟨b0, b1, b2, c3, c4, -, -, lt⟩ := HK2.out
  obtain ⟨s0, s1, s2, s3, s4, slt⟩ := HX2.out
  simp only at s0 s1 s2 s3 s4
  rcases z with _ | _
  · rw [if_neg Bool.false_ne_true] at h
    obtain ⟨y, hy⟩ : ∃ z, Cp.good ⟨ty, th, ri, ba⟩ = z := ⟨_, rfl⟩
    rw [hy] at h
    have HGD := Lib.hid hy
    clear hy
    go_wp2_with fail
    rcases y with _ | _
    · rw [Bool.false_and] at h
      subst h
      refine wp_region_held_drew (S := (fun w' => w'.cell? ⟨g, 0, none⟩ = some (.int .i64 a) ∧ w'.cell? ⟨g, 1, none⟩ = some (.int .i64 b) ∧ w'.cell? ⟨g, 2, none⟩ = some (.int .i64 c) ∧ w'.cell? ⟨g, 3, none⟩ = some (.slice A n ca) ∧ w'.cell? ⟨g, 4, none⟩ = some (.slice C m cc) ∧ w'.cell? ⟨P, 0, none⟩ = some (.int .i64 ty) ∧ w'.cell? ⟨P, 1, none⟩ = some (.int .i64 th) ∧ w'.cell? ⟨P, 2, none⟩ = some (.int .i64 ri) ∧ w'.cell? ⟨P, 3, none⟩ = some (.int .i64 ba) ∧ w'.cell? ⟨P, 4, none⟩ = some (.int .i64 up) ∧ Below w2.heap.size w2 w')) (by kernel_rfl) ⟨b0, b1, b2, c3, c4, s0, s1, s2, s3, s4, (below_self w2).drew⟩ (fun hHeld => ?_)
      refine wpAnyH_take (i := 0) (v := ?_) rfl (by kernel_rfl) (by kernel_rfl) (by kernel_rfl) (fun _ _ _ h => h) (Or.inl ⟨by rfl, ?_⟩) (by assumption) ?_
      rotate_left
      · intro w hSw; go_split_ands; go_simp; try with_reducible rfl
      simp only [Act.put, List.setIfInBounds_toArray, List.set_cons_zero, List.set_cons_succ, List.getElem_toArray, List.getElem_cons_zero]
      refine wpAnyH_take (i := 1) (v := ?_) rfl (by kernel_rfl) (by kernel_rfl) (by kernel_rfl) (fun _ _ _ h => h) (Or.inl ⟨by rfl, ?_⟩) (by assumption) ?_
      rotate_left
      · intro w hSw; go_split_ands; go_simp; try with_reducible rfl
      simp only [Act.put, List.setIfInBounds_toArray, List.set_cons_zero, List.set_cons_succ, List.getElem_toArray, List.getElem_cons_zero, List.getElem_cons_succ]
      refine wpAnyH_ready (rs := [2]) (by kernel_rfl) (by simp) ?_
      refine AllReadyH.cons rfl (fun K hK => ?_) AllReadyH.nil
      go_simp
      refine (cgood_at HGD.out _).mono ?_
      rintro e w' ⟨rfl, hb⟩
      have zb := below_on (below_self w2).drew hb
      refine hK.out _ _ ⟨(zb.cell (p := ⟨g, 0, none⟩) lt).trans b0, (zb.cell (p := ⟨g, 1, none⟩) lt).trans b1, (zb.cell (p := ⟨g, 2, none⟩) lt).trans b2, (zb.cell (p := ⟨g, 3, none⟩) lt).trans c3, (zb.cell (p := ⟨g, 4, none⟩) lt).trans c4, (zb.cell (p := ⟨P, 0, none⟩) slt).trans s0, (zb.cell (p := ⟨P, 1, none⟩) slt).trans s1, (zb.cell (p := ⟨P, 2, none⟩) slt).trans s2, (zb.cell (p := ⟨P, 3, none⟩) slt).trans s3, (zb.cell (p := ⟨P, 4, none⟩) slt).trans s4, zb⟩ (fun hHeld => ?_)
      clear hK K
      try simp only [Act.put, List.setIfInBounds_toArray, List.set_cons_zero, List.set_cons_succ]
      refine wpAnyH_take (i := 3) (v := ?_) rfl (by kernel_rfl) (by kernel_rfl) (by kernel_rfl) (fun _ _ _ h => h) (Or.inl ⟨by rfl, ?_⟩) (by assumption) ?_
      rotate_left
      · intro w hSw; go_split_ands; go_simp; try with_reducible rfl
      simp only [Act.put, List.setIfInBounds_toArray, List.set_cons_zero, List.set_cons_succ, List.getElem_toArray, List.getElem_cons_zero, List.getElem_cons_succ]
      refine wpAnyH_take (i := 4) rfl (by kernel_rfl) (by kernel_rfl) (by kernel_rfl) (fun _ _ _ h => h) (Or.inr ⟨by rfl, rfl⟩) (by assumption) ?_
      simp only [Act.put, List.setIfInBounds_toArray, List.set_cons_zero, List.set_cons_succ, List.getElem_toArray, List.getElem_cons_zero, List.getElem_cons_succ]
      refine wpAnyH_take (i := 5) rfl (by kernel_rfl) (by kernel_rfl) (by kernel_rfl) (fun _ _ _ h => h) (Or.inr ⟨by rfl, rfl⟩) (by assumption) ?_
      simp only [Act.put, List.setIfInBounds_toArray, List.set_cons_zero, List.set_cons_succ, List.getElem_toArray, List.getElem_cons_zero, List.getElem_cons_succ]
      refine wpAnyH_take (i := 6) rfl (by kernel_rfl) (by kernel_rfl) (by kernel_rfl) (fun _ _ _ h => h) (Or.inr ⟨by rfl, rfl⟩) (by assumption) ?_
      simp only [Act.put, List.setIfInBounds_toArray, List.set_cons_zero, List.set_cons_succ, List.getElem_toArray, List.getElem_cons_zero, List.getElem_cons_succ]
      refine wpAnyH_take (i := 7) rfl (by kernel_rfl) (by kernel_rfl) (by kernel_rfl) (fun _ _ _ h => h) (Or.inr ⟨by rfl, rfl⟩) (by assumption) ?_
      simp only [Act.put, List.setIfInBounds_toArray, List.set_cons_zero, List.set_cons_succ, List.getElem_toArray, List.getElem_cons_zero, List.getElem_cons_succ]
      refine wpAnyH_take (i := 8) rfl (by kernel_rfl) (by kernel_rfl) (by kernel_rfl) (fun _ _ _ h => h) (Or.inr ⟨by rfl, rfl⟩) (by assumption) ?_
      simp only [Act.put, List.setIfInBounds_toArray, List.set_cons_zero, List.set_cons_succ, List.getElem_toArray, List.getElem_cons_zero, List.getElem_cons_succ]
      refine wpAnyH_take (i := 9) (v := ?_) rfl (by kernel_rfl) (by kernel_rfl) (by kernel_rfl) (fun _ _ _ h => h) (Or.inl ⟨by rfl, ?_⟩) (by assumption) ?_
      rotate_left
      · intro w hSw; go_split_ands; go_simp; try with_reducible rfl
      simp only [Act.put, List.setIfInBounds_toArray, List.set_cons_zero, List.set_cons_succ, List.getElem_toArray, List.getElem_cons_zero, List.getElem_cons_succ]
      refine wpAnyH_take (i := 10) (v := ?_) rfl (by kernel_rfl) (by kernel_rfl) (by kernel_rfl) (fun _ _ _ h => h) (Or.inl ⟨by rfl, ?_⟩) (by assumption) ?_
      rotate_left
      · intro w hSw; go_split_ands; go_simp; try with_reducible rfl
      simp only [Act.put, List.setIfInBounds_toArray, List.set_cons_zero, List.set_cons_succ, List.getElem_toArray, List.getElem_cons_zero, List.getElem_cons_succ]
      refine wpAnyH_take (i := 11) rfl (by kernel_rfl) (by kernel_rfl) (by kernel_rfl) (fun _ _ _ h => h) (Or.inr ⟨by rfl, rfl⟩) (by assumption) ?_
      simp only [Act.put, List.setIfInBounds_toArray, List.set_cons_zero, List.set_cons_succ, List.getElem_toArray, List.getElem_cons_zero, List.getElem_cons_succ]
      refine wpAnyH_take (i := 12) rfl (by kernel_rfl) (by kernel_rfl) (by kernel_rfl) (fun _ _ _ h => h) (Or.inr ⟨by rfl, rfl⟩) (by assumption) ?_
      simp only [Act.put, List.setIfInBounds_toArray, List.set_cons_zero, List.set_cons_succ, List.getElem_toArray, List.getElem_cons_zero, List.getElem_cons_succ]
      refine wpAnyH_take (i := 13) rfl (by kernel_rfl) (by kernel_rfl) (by kernel_rfl) (fun _ _ _ h => h) (Or.inr ⟨by rfl, rfl⟩) (by assumption) ?_
      simp only [Act.put, List.setIfInBounds_toArray, List.set_cons_zero, List.set_cons_succ, List.getElem_toArray, List.getElem_cons_zero, List.getElem_cons_succ]
      refine wpAnyH_take (i := 14) rfl (by kernel_rfl) (by kernel_rfl) (by kernel_rfl) (fun _ _ _ h => h) (Or.inr ⟨by rfl, rfl⟩) (by assumption) ?_
      simp only [Act.put, List.setIfInBounds_toArray, List.set_cons_zero, List.set_cons_succ, List.getElem_toArray, List.getElem_cons_zero, List.getElem_cons_succ]
      refine wpAnyH_take (i := 15) rfl (by kernel_rfl) (by kernel_rfl) (by kernel_rfl) (fun _ _ _ h => h) (Or.inr ⟨by rfl, rfl⟩) (by assumption) ?_
      simp only [Act.put, List.setIfInBounds_toArray, List.set_cons_zero, List.set_cons_succ, List.getElem_toArray, List.getElem_cons_zero, List.getElem_cons_succ]
      refine wpAnyH_take (i := 16) rfl (by kernel_rfl) (by kernel_rfl) (by kernel_rfl) (fun _ _ _ h => h) (Or.inr ⟨by rfl, rfl⟩) (by assumption) ?_
      simp only [Act.put, List.setIfInBounds_toArray, List.set_cons_zero, List.set_cons_succ, List.getElem_toArray, List.getElem_cons_zero, List.getElem_cons_succ]
      refine wpAnyH_take (i := 17) rfl (by kernel_rfl) (by kernel_rfl) (by kernel_rfl) (fun _ _ _ h => h) (Or.inr ⟨by rfl, rfl⟩) (by assumption) ?_
      simp only [Act.put, List.setIfInBounds_toArray, List.set_cons_zero, List.set_cons_succ, List.getElem_toArray, List.getElem_cons_zero, List.getElem_cons_succ]
      refine wpAnyH_take (i := 18) rfl (by kernel_rfl) (by kernel_rfl) (by kernel_rfl) (fun _ _ _ h => h) (Or.inr ⟨by rfl, rfl⟩) (by assumption) ?_
      simp only [Act.put, List.setIfInBounds_toArray, List.set_cons_zero, List.set_cons_succ, List.getElem_toArray, List.getElem_cons_zero, List.getElem_cons_succ]
      refine wpAnyH_take (i := 19) rfl (by kernel_rfl) (by kernel_rfl) (by kernel_rfl) (fun _ _ _ h => h) (Or.inr ⟨by rfl, rfl⟩) (by assumption) ?_
      simp only [Act.put, List.setIfInBounds_toArray, List.set_cons_zero, List.set_cons_succ, List.getElem_toArray, List.getElem_cons_zero, List.getElem_cons_succ]
      refine wpAnyH_take (i := 20) rfl (by kernel_rfl) (by kernel_rfl) (by kernel_rfl) (fun _ _ _ h => h) (Or.inr ⟨by rfl, rfl⟩) (by assumption) ?_
      simp only [Act.put, List.setIfInBounds_toArray, List.set_cons_zero, List.set_cons_succ, List.getElem_toArray, List.getElem_cons_zero, List.getElem_cons_succ]
      refine wpAnyH_take (i := 21) rfl (by kernel_rfl) (by kernel_rfl) (by kernel_rfl) (fun _ _ _ h => h) (Or.inr ⟨by rfl, rfl⟩) (by assumption) ?_
      simp only [Act.put, List.setIfInBounds_toArray, List.set_cons_zero, List.set_cons_succ, List.getElem_toArray, List.getElem_cons_zero, List.getElem_cons_succ]
      refine wpAnyH_take (i := 22) rfl (by kernel_rfl) (by kernel_rfl) (by kernel_rfl) (fun _ _ _ h => h) (Or.inr ⟨by rfl, rfl⟩) (by assumption) ?_
      simp only [Act.put, List.setIfInBounds_toArray, List.set_cons_zero, List.set_cons_succ, List.getElem_toArray, List.getElem_cons_zero, List.getElem_cons_succ]
      refine wpAnyH_take (i := 23) (v := ?_) rfl (by kernel_rfl) (by kernel_rfl) (by kernel_rfl) (fun _ _ _ h => h) (Or.inl ⟨by rfl, ?_⟩) (by assumption) ?_
      rotate_left
      · intro w hSw; go_split_ands; go_simp; try with_reducible rfl
      simp only [Act.put, List.setIfInBounds_toArray, List.set_cons_zero, List.set_cons_succ, List.getElem_toArray, List.getElem_cons_zero, List.getElem_cons_succ]
      refine wpAnyH_take (i := 24) (v := ?_) rfl (by kernel_rfl) (by kernel_rfl) (by kernel_rfl) (fun _ _ _ h => h) (Or.inl ⟨by rfl, ?_⟩) (by assumption) ?_
      rotate_left
      · intro w hSw; go_split_ands; go_simp; try with_reducible rfl
      simp only [Act.put, List.setIfInBounds_toArray, List.set_cons_zero, List.set_cons_succ, List.getElem_toArray, List.getElem_cons_zero, List.getElem_cons_succ]
      refine wpAnyH_take (i := 25) rfl (by kernel_rfl) (by kernel_rfl) (by kernel_rfl) (fun _ _ _ h => h) (Or.inr ⟨by rfl, rfl⟩) (by assumption) ?_
      simp only [Act.put, List.setIfInBounds_toArray, List.set_cons_zero, List.set_cons_succ, List.getElem_toArray, List.getElem_cons_zero, List.getElem_cons_succ]
      refine wpAnyH_take (i := 26) rfl (by kernel_rfl) (by kernel_rfl) (by kernel_rfl) (fun _ _ _ h => h) (Or.inr ⟨by rfl, rfl⟩) (by assumption) ?_
      simp only [Act.put, List.setIfInBounds_toArray, List.set_cons_zero, List.set_cons_succ, List.getElem_toArray, List.getElem_cons_zero, List.getElem_cons_succ]
      refine wpAnyH_take (i := 27) rfl (by kernel_rfl) (by kernel_rfl) (by kernel_rfl) (fun _ _ _ h => h) (Or.inr ⟨by rfl, rfl⟩) (by assumption) ?_
      simp only [Act.put, List.setIfInBounds_toArray, List.set_cons_zero, List.set_cons_succ, List.getElem_toArray, List.getElem_cons_zero, List.getElem_cons_succ]
      refine wpAnyH_take (i := 28) (v := ?_) rfl (by kernel_rfl) (by kernel_rfl) (by kernel_rfl) (fun _ _ _ h => h) (Or.inl ⟨by rfl, ?_⟩) (by assumption) ?_
      rotate_left
      · intro w hSw; go_split_ands; go_simp; try with_reducible rfl
      simp only [Act.put, List.setIfInBounds_toArray, List.set_cons_zero, List.set_cons_succ, List.getElem_toArray, List.getElem_cons_zero, List.getElem_cons_succ]
      refine wpAnyH_take (i := 29) (v := ?_) rfl (by kernel_rfl) (by kernel_rfl) (by kernel_rfl) (fun _ _ _ h => h) (Or.inl ⟨by rfl, ?_⟩) (by assumption) ?_
      rotate_left
      · intro w hSw; go_split_ands; go_simp; try with_reducible rfl
      simp only [Act.put, List.setIfInBounds_toArray, List.set_cons_zero, List.set_cons_succ, List.getElem_toArray, List.getElem_cons_zero, List.getElem_cons_succ]
      refine wpAnyH_done (by kernel_rfl) ?_ _
      go_wp2
      go_ret
      exact ⟨rfl, below_on HK2.out.old zb⟩
    rw [Bool.true_and] at h
    by_cases hin : 0 ≤ th ∧ th < (m : Int)
    · have HIT : Hid ((decide (0 ≤ th) && decide (th < (m : Int))) = true) := Lib.hid (by rw [decide_eq_true hin.1, decide_eq_true hin.2]; rfl)
      rw [decide_eq_true hin.1, decide_eq_true hin.2, Bool.true_and, Bool.true_and] at h
      obtain ⟨x, rfl⟩ : ∃ x : Nat, th = x := ⟨th.toNat, by omega⟩
      have hxm : x < m := by omega
      have hx2 : (x : Int) < (m : Int) := hin.2
      rw [Int.toNat_natCast] at h
      obtain ⟨tb, tp, rfl, htb, hc⟩ := (HS.out.on HK2.out.old).th (by rw [← HM.out]; omega)
      have t0 := (hc x (by rw [← HM.out]; exact hxm)).c0
      obtain ⟨q, hq⟩ : ∃ q, (thAt s.th x).ty = q := ⟨_, rfl⟩
      rw [hq] at t0 h
      clear hc hq hin
      by_cases ht : q = ty
      · subst ht
        rw [beq_self_eq_true, Bool.true_and] at h
        refine wp_region_held_drew (S := (fun w' => w'.cell? ⟨g, 0, none⟩ = some (.int .i64 a) ∧ w'.cell? ⟨g, 1, none⟩ = some (.int .i64 b) ∧ w'.cell? ⟨g, 2, none⟩ = some (.int .i64 c) ∧ w'.cell? ⟨g, 3, none⟩ = some (.slice A n ca) ∧ w'.cell? ⟨g, 4, none⟩ = some (.slice (some ⟨tb, tp, none⟩) m cc) ∧ w'.cell? ⟨P, 0, none⟩ = some (.int .i64 q) ∧ w'.cell? ⟨P, 1, none⟩ = some (.int .i64 (x : Int)) ∧ w'.cell? ⟨P, 2, none⟩ = some (.int .i64 ri) ∧ w'.cell? ⟨P, 3, none⟩ = some (.int .i64 ba) ∧ w'.cell? ⟨P, 4, none⟩ = some (.int .i64 up) ∧ w'.cell? ⟨tb, tp + x * 13, none⟩ = some (.int .i64 q) ∧ Below w2.heap.size w2 w')) (by kernel_rfl) ⟨b0, b1, b2, c3, c4, s0, s1, s2, s3, s4, t0, (below_self w2).drew⟩ (fun hHeld => ?_)
        refine wpAnyH_take (i := 0) (v := ?_) rfl (by kernel_rfl) (by kernel_rfl) (by kernel_rfl) (fun _ _ _ h => h) (Or.inl ⟨by rfl, ?_⟩) (by assumption) ?_
        rotate_left
        · intro w hSw; go_split_ands; go_simp; try with_reducible rfl
        simp only [Act.put, List.setIfInBounds_toArray, List.set_cons_zero, List.set_cons_succ, List.getElem_toArray, List.getElem_cons_zero]
        refine wpAnyH_take (i := 1) (v := ?_) rfl (by kernel_rfl) (by kernel_rfl) (by kernel_rfl) (fun _ _ _ h => h) (Or.inl ⟨by rfl, ?_⟩) (by assumption) ?_
        rotate_left
        · intro w hSw; go_split_ands; go_simp; try with_reducible rfl
        simp only [Act.put, List.setIfInBounds_toArray, List.set_cons_zero, List.set_cons_succ, List.getElem_toArray, List.getElem_cons_zero, List.getElem_cons_succ]
        refine wpAnyH_ready (rs := [2]) (by kernel_rfl) (by simp) ?_
        refine AllReadyH.cons rfl (fun K hK => ?_) AllReadyH.nil
        go_simp
        refine (cgood_at HGD.out _).mono ?_
        rintro e w' ⟨rfl, hb⟩
        have zb := below_on (below_self w2).drew hb
        refine hK.out _ _ ⟨(zb.cell (p := ⟨g, 0, none⟩) lt).trans b0, (zb.cell (p := ⟨g, 1, none⟩) lt).trans b1, (zb.cell (p := ⟨g, 2, none⟩) lt).trans b2, (zb.cell (p := ⟨g, 3, none⟩) lt).trans c3, (zb.cell (p := ⟨g, 4, none⟩) lt).trans c4, (zb.cell (p := ⟨P, 0, none⟩) slt).trans s0, (zb.cell (p := ⟨P, 1, none⟩) slt).trans s1, (zb.cell (p := ⟨P, 2, none⟩) slt).trans s2, (zb.cell (p := ⟨P, 3, none⟩) slt).trans s3, (zb.cell (p := ⟨P, 4, none⟩) slt).trans s4, (zb.cell (p := ⟨tb, tp + x * 13, none⟩) htb).trans t0, zb⟩ (fun hHeld => ?_)
        clear hK K
        try simp only [Act.put, List.setIfInBounds_toArray, List.set_cons_zero, List.set_cons_succ]
        refine wpAnyH_take (i := 3) (v := ?_) rfl (by kernel_rfl) (by kernel_rfl) (by kernel_rfl) (fun _ _ _ h => h) (Or.inl ⟨by rfl, ?_⟩) (by assumption) ?_
        rotate_left
        · intro w hSw; go_split_ands; go_simp; try with_reducible rfl
        simp only [Act.put, List.setIfInBounds_toArray, List.set_cons_zero, List.set_cons_succ, List.getElem_toArray, List.getElem_cons_zero, List.getElem_cons_succ]
        refine wpAnyH_take (i := 4) (v := ?_) rfl (by kernel_rfl) (by kernel_rfl) (by kernel_rfl) (fun _ _ _ h => h) (Or.inl ⟨by rfl, ?_⟩) (by assumption) ?_
        rotate_left
        · intro w hSw; go_split_ands; go_simp; try with_reducible rfl
        simp only [Act.put, List.setIfInBounds_toArray, List.set_cons_zero, List.set_cons_succ, List.getElem_toArray, List.getElem_cons_zero, List.getElem_cons_succ]
        refine wpAnyH_take (i := 5) (v := ?_) rfl (by kernel_rfl) (by kernel_rfl) (by kernel_rfl) (fun _ _ _ h => h) (Or.inl ⟨by rfl, ?_⟩) (by assumption) ?_
        rotate_left
        · intro w hSw; go_split_ands; go_simp; try with_reducible rfl
        simp only [Act.put, List.setIfInBounds_toArray, List.set_cons_zero, List.set_cons_succ, List.getElem_toArray, List.getElem_cons_zero, List.getElem_cons_succ]
        refine wpAnyH_take (i := 6) (v := ?_) rfl (by kernel_rfl) (by kernel_rfl) (by kernel_rfl) (fun _ _ _ h => h) (Or.inl ⟨by rfl, ?_⟩) (by assumption) ?_
        rotate_left
        · intro w hSw; go_split_ands; go_simp; try with_reducible rfl
        simp only [Act.put, List.setIfInBounds_toArray, List.set_cons_zero, List.set_cons_succ, List.getElem_toArray, List.getElem_cons_zero, List.getElem_cons_succ]
        refine wpAnyH_take (i := 7) (v := ?_) rfl (by kernel_rfl) (by kernel_rfl) (by kernel_rfl) (fun _ _ _ h => h) (Or.inl ⟨by rfl, ?_⟩) (by assumption) ?_
        rotate_left
        · intro w hSw; go_split_ands; go_simp; try with_reducible rfl
        simp only [Act.put, List.setIfInBounds_toArray, List.set_cons_zero, List.set_cons_succ, List.getElem_toArray, List.getElem_cons_zero, List.getElem_cons_succ]
        refine wpAnyH_ready (rs := [8]) (by kernel_rfl) (by simp) ?_
        refine AllReadyH.cons rfl (fun K hK => ?_) AllReadyH.nil
        go_simp
        refine (isthing_at HIT.out _).mono ?_
        rintro e w' ⟨rfl, hb⟩
        replace zb := below_on zb hb
        refine hK.out _ _ ⟨(zb.cell (p := ⟨g, 0, none⟩) lt).trans b0, (zb.cell (p := ⟨g, 1, none⟩) lt).trans b1, (zb.cell (p := ⟨g, 2, none⟩) lt).trans b2, (zb.cell (p := ⟨g, 3, none⟩) lt).trans c3, (zb.cell (p := ⟨g, 4, none⟩) lt).trans c4, (zb.cell (p := ⟨P, 0, none⟩) slt).trans s0, (zb.cell (p := ⟨P, 1, none⟩) slt).trans s1, (zb.cell (p := ⟨P, 2, none⟩) slt).trans s2, (zb.cell (p := ⟨P, 3, none⟩) slt).trans s3, (zb.cell (p := ⟨P, 4, none⟩) slt).trans s4, (zb.cell (p := ⟨tb, tp + x * 13, none⟩) htb).trans t0, zb⟩ (fun hHeld => ?_)
        clear hK K
        try simp only [Act.put, List.setIfInBounds_toArray, List.set_cons_zero, List.set_cons_succ]
        refine wpAnyH_take (i := 9) (v := ?_) rfl (by kernel_rfl) (by kernel_rfl) (by kernel_rfl) (fun _ _ _ h => h) (Or.inl ⟨by rfl, ?_⟩) (by assumption) ?_
        rotate_left
        · intro w hSw; go_split_ands; go_simp; try with_reducible rfl
        simp only [Act.put, List.setIfInBounds_toArray, List.set_cons_zero, List.set_cons_succ, List.getElem_toArray, List.getElem_cons_zero, List.getElem_cons_succ]
        refine wpAnyH_take (i := 10) (v := ?_) rfl (by kernel_rfl) (by kernel_rfl) (by kernel_rfl) (fun _ _ _ h => h) (Or.inl ⟨by rfl, ?_⟩) (by assumption) ?_
        rotate_left
        · intro w hSw; go_split_ands; go_simp; try with_reducible rfl
        simp only [Act.put, List.setIfInBounds_toArray, List.set_cons_zero, List.set_cons_succ, List.getElem_toArray, List.getElem_cons_zero, List.getElem_cons_succ]
        refine wpAnyH_take (i := 11) (v := ?_) rfl (by kernel_rfl) (by kernel_rfl) (by kernel_rfl) (fun _ _ _ h => h) (Or.inl ⟨by rfl, ?_⟩) (by assumption) ?_
        rotate_left
        · intro w hSw; go_split_ands; go_simp; try with_reducible rfl
        simp only [Act.put, List.setIfInBounds_toArray, List.set_cons_zero, List.set_cons_succ, List.getElem_toArray, List.getElem_cons_zero, List.getElem_cons_succ]
        refine wpAnyH_take (i := 12) (v := ?_) rfl (by kernel_rfl) (by kernel_rfl) (by kernel_rfl) (fun _ _ _ h => h) (Or.inl ⟨by rfl, ?_⟩) (by assumption) ?_
        rotate_left
        · intro w hSw; go_split_ands; go_simp; try with_reducible rfl
        simp only [Act.put, List.setIfInBounds_toArray, List.set_cons_zero, List.set_cons_succ, List.getElem_toArray, List.getElem_cons_zero, List.getElem_cons_succ]
        refine wpAnyH_take (i := 13) (v := ?_) rfl (by kernel_rfl) (by kernel_rfl) (by kernel_rfl) (fun _ _ _ h => h) (Or.inl ⟨by rfl, ?_⟩) (by assumption) ?_
        rotate_left
        · intro w hSw; go_split_ands; go_simp; try with_reducible rfl
        simp only [Act.put, List.setIfInBounds_toArray, List.set_cons_zero, List.set_cons_succ, List.getElem_toArray, List.getElem_cons_zero, List.getElem_cons_succ]
        refine wpAnyH_take (i := 14) (v := ?_) rfl (by kernel_rfl) (by kernel_rfl) (by kernel_rfl) (fun _ _ _ h => h) (Or.inl ⟨by rfl, ?_⟩) (by assumption) ?_
        rotate_left
        · intro w hSw; go_split_ands; go_simp; try with_reducible rfl
        simp only [Act.put, List.setIfInBounds_toArray, List.set_cons_zero, List.set_cons_succ, List.getElem_toArray, List.getElem_cons_zero, List.getElem_cons_succ]
        refine wpAnyH_take (i := 15) (v := ?_) rfl (by kernel_rfl) (by kernel_rfl) (by kernel_rfl) (fun _ _ _ h => h) (Or.inl ⟨by rfl, ?_⟩) (by assumption) ?_
        rotate_left
        · intro w hSw; go_split_ands; go_simp; try with_reducible rfl
        simp only [Act.put, List.setIfInBounds_toArray, List.set_cons_zero, List.set_cons_succ, List.getElem_toArray, List.getElem_cons_zero, List.getElem_cons_succ]
        refine wpAnyH_take (i := 16) (v := ?_) rfl (by kernel_rfl) (by kernel_rfl) (by kernel_rfl) (fun _ _ _ h => h) (Or.inl ⟨by rfl, ?_⟩) (by assumption) ?_
        rotate_left
        · intro w hSw; go_split_ands; go_simp; try with_reducible rfl
        simp only [Act.put, List.setIfInBounds_toArray, List.set_cons_zero, List.set_cons_succ, List.getElem_toArray, List.getElem_cons_zero, List.getElem_cons_succ]
        refine wpAnyH_take (i := 17) (v := ?_) rfl (by kernel_rfl) (by kernel_rfl) (by kernel_rfl) (fun _ _ _ h => h) (Or.inl ⟨by rfl, ?_⟩) (by assumption) ?_
        rotate_left
        · intro w hSw; go_split_ands; go_simp; try with_reducible rfl
        simp only [Act.put, List.setIfInBounds_toArray, List.set_cons_zero, List.set_cons_succ, List.getElem_toArray, List.getElem_cons_zero, List.getElem_cons_succ]
        refine wpAnyH_take (i := 18) (v := ?_) rfl (by kernel_rfl) (by kernel_rfl) (by kernel_rfl) (fun _ _ _ h => h) (Or.inl ⟨by rfl, ?_⟩) (by assumption) ?_
        rotate_left
        · intro w hSw; go_split_ands; go_simp; try with_reducible rfl
        simp only [Act.put, List.setIfInBounds_toArray, List.set_cons_zero, List.set_cons_succ, List.getElem_toArray, List.getElem_cons_zero, List.getElem_cons_succ]
        refine wpAnyH_take (i := 19) (v := ?_) rfl (by kernel_rfl) (by kernel_rfl) (by kernel_rfl) (fun _ _ _ h => h) (Or.inl ⟨by rfl, ?_⟩) (by assumption) ?_
        rotate_left
        · intro w hSw; go_split_ands; go_simp; try with_reducible rfl
        simp only [Act.put, List.setIfInBounds_toArray, List.set_cons_zero, List.set_cons_succ, List.getElem_toArray, List.getElem_cons_zero, List.getElem_cons_succ]
        refine wpAnyH_take (i := 20) (v := ?_) rfl (by kernel_rfl) (by kernel_rfl) (by kernel_rfl) (fun _ _ _ h => h) (Or.inl ⟨by rfl, ?_⟩) (by assumption) ?_
        rotate_left
        · intro w hSw; go_split_ands; go_simp; try with_reducible rfl
        simp only [Act.put, List.setIfInBounds_toArray, List.set_cons_zero, List.set_cons_succ, List.getElem_toArray, List.getElem_cons_zero, List.getElem_cons_succ]
        refine wpAnyH_take (i := 21) (v := ?_) rfl (by kernel_rfl) (by kernel_rfl) (by kernel_rfl) (fun _ _ _ h => h) (Or.inl ⟨by rfl, ?_⟩) (by assumption) ?_
        rotate_left
        · intro w hSw; go_split_ands; go_simp; try with_reducible rfl
        simp only [Act.put, List.setIfInBounds_toArray, List.set_cons_zero, List.set_cons_succ, List.getElem_toArray, List.getElem_cons_zero, List.getElem_cons_succ]
        refine wpAnyH_take (i := 22) (v := ?_) rfl (by kernel_rfl) (by kernel_rfl) (by kernel_rfl) (fun _ _ _ h => h) (Or.inl ⟨by rfl, ?_⟩) (by assumption) ?_
        rotate_left
        · intro w hSw; go_split_ands; go_simp; try with_reducible rfl
        simp only [Act.put, List.setIfInBounds_toArray, List.set_cons_zero, List.set_cons_succ, List.getElem_toArray, List.getElem_cons_zero, List.getElem_cons_succ]
        refine wpAnyH_take (i := 23) (v := ?_) rfl (by kernel_rfl) (by kernel_rfl) (by kernel_rfl) (fun _ _ _ h => h) (Or.inl ⟨by rfl, ?_⟩) (by assumption) ?_
        rotate_left
        · intro w hSw; go_split_ands; go_simp; try with_reducible rfl
        simp only [Act.put, List.setIfInBounds_toArray, List.set_cons_zero, List.set_cons_succ, List.getElem_toArray, List.getElem_cons_zero, List.getElem_cons_succ]
        refine wpAnyH_take (i := 24) (v := ?_) rfl (by kernel_rfl) (by kernel_rfl) (by kernel_rfl) (fun _ _ _ h => h) (Or.inl ⟨by rfl, ?_⟩) (by assumption) ?_
        rotate_left
        · intro w hSw; go_split_ands; go_simp; try with_reducible rfl
        simp only [Act.put, List.setIfInBounds_toArray, List.set_cons_zero, List.set_cons_succ, List.getElem_toArray, List.getElem_cons_zero, List.getElem_cons_succ]
        refine wpAnyH_take (i := 25) (v := ?_) rfl (by kernel_rfl) (by kernel_rfl) (by kernel_rfl) (fun _ _ _ h => h) (Or.inl ⟨by rfl, ?_⟩) (by assumption) ?_
        rotate_left
        · intro w hSw; go_split_ands; go_simp; try with_reducible rfl
        simp only [Act.put, List.setIfInBounds_toArray, List.set_cons_zero, List.set_cons_succ, List.getElem_toArray, List.getElem_cons_zero, List.getElem_cons_succ]
        refine wpAnyH_take (i := 26) (v := ?_) rfl (by kernel_rfl) (by kernel_rfl) (by kernel_rfl) (fun _ _ _ h => h) (Or.inl ⟨by rfl, ?_⟩) (by assumption) ?_
        rotate_left
        · intro w hSw; go_split_ands; go_simp; try with_reducible rfl
        simp only [Act.put, List.setIfInBounds_toArray, List.set_cons_zero, List.set_cons_succ, List.getElem_toArray, List.getElem_cons_zero, List.getElem_cons_succ]
        refine wpAnyH_take (i := 27) (v := ?_) rfl (by kernel_rfl) (by kernel_rfl) (by kernel_rfl) (fun _ _ _ h => h) (Or.inl ⟨by rfl, ?_⟩) (by assumption) ?_
        rotate_left
        · intro w hSw; go_split_ands; go_simp; try with_reducible rfl
        simp only [Act.put, List.setIfInBounds_toArray, List.set_cons_zero, List.set_cons_succ, List.getElem_toArray, List.getElem_cons_zero, List.getElem_cons_succ]
        refine wpAnyH_take (i := 28) (v := ?_) rfl (by kernel_rfl) (by kernel_rfl) (by kernel_rfl) (fun _ _ _ h => h) (Or.inl ⟨by rfl, ?_⟩) (by assumption) ?_
        rotate_left
        · intro w hSw; go_split_ands; go_simp; try with_reducible rfl
        simp only [Act.put, List.setIfInBounds_toArray, List.set_cons_zero, List.set_cons_succ, List.getElem_toArray, List.getElem_cons_zero, List.getElem_cons_succ]
        refine wpAnyH_take (i := 29) (v := ?_) rfl (by kernel_rfl) (by kernel_rfl) (by kernel_rfl) (fun _ _ _ h => h) (Or.inl ⟨by rfl, ?_⟩) (by assumption) ?_
        rotate_left
        · intro w hSw; go_split_ands; go_simp; try with_reducible rfl
        simp only [Act.put, List.setIfInBounds_toArray, List.set_cons_zero, List.set_cons_succ, List.getElem_toArray, List.getElem_cons_zero, List.getElem_cons_succ]
        refine wpAnyH_done (by kernel_rfl) ?_ _
        go_wp2
        go_ret
        exact ⟨by rw [← h]; rfl, below_on HK2.out.old zb⟩
      · have ht2 : (q == ty) = false := beq_eq_false_iff_ne.2 ht
        rw [ht2, Bool.false_and] at h
        subst h
        refine wp_region_held_drew (S := (fun w' => w'.cell? ⟨g, 0, none⟩ = some (.int .i64 a) ∧ w'.cell? ⟨g, 1, none⟩ = some (.int .i64 b) ∧ w'.cell? ⟨g, 2, none⟩ = some (.int .i64 c) ∧ w'.cell? ⟨g, 3, none⟩ = some (.slice A n ca) ∧ w'.cell? ⟨g, 4, none⟩ = some (.slice (some ⟨tb, tp, none⟩) m cc) ∧ w'.cell? ⟨P, 0, none⟩ = some (.int .i64 ty) ∧ w'.cell? ⟨P, 1, none⟩ = some (.int .i64 (x : Int)) ∧ w'.cell? ⟨P, 2, none⟩ = some (.int .i64 ri) ∧ w'.cell? ⟨P, 3, none⟩ = some (.int .i64 ba) ∧ w'.cell? ⟨P, 4, none⟩ = some (.int .i64 up) ∧ w'.cell? ⟨tb, tp + x * 13, none⟩ = some (.int .i64 q) ∧ Below w2.heap.size w2 w')) (by kernel_rfl) ⟨b0, b1, b2, c3, c4, s0, s1, s2, s3, s4, t0, (below_self w2).drew⟩ (fun hHeld => ?_)
        refine wpAnyH_take (i := 0) (v := ?_) rfl (by kernel_rfl) (by kernel_rfl) (by kernel_rfl) (fun _ _ _ h => h) (Or.inl ⟨by rfl, ?_⟩) (by assumption) ?_
        rotate_left
        · intro w hSw; go_split_ands; go_simp; try with_reducible rfl
        simp only [Act.put, List.setIfInBounds_toArray, List.set_cons_zero, List.set_cons_succ, List.getElem_toArray, List.getElem_cons_zero]
        refine wpAnyH_take (i := 1) (v := ?_) rfl (by kernel_rfl) (by kernel_rfl) (by kernel_rfl) (fun _ _ _ h => h) (Or.inl ⟨by rfl, ?_⟩) (by assumption) ?_
        rotate_left
        · intro w hSw; go_split_ands; go_simp; try with_reducible rfl
        simp only [Act.put, List.setIfInBounds_toArray, List.set_cons_zero, List.set_cons_succ, List.getElem_toArray, List.getElem_cons_zero, List.getElem_cons_succ]
        refine wpAnyH_ready (rs := [2]) (by kernel_rfl) (by simp) ?_
        refine AllReadyH.cons rfl (fun K hK => ?_) AllReadyH.nil
        go_simp
        refine (cgood_at HGD.out _).mono ?_
        rintro e w' ⟨rfl, hb⟩
        have zb := below_on (below_self w2).drew hb
        refine hK.out _ _ ⟨(zb.cell (p := ⟨g, 0, none⟩) lt).trans b0, (zb.cell (p := ⟨g, 1, none⟩) lt).trans b1, (zb.cell (p := ⟨g, 2, none⟩) lt).trans b2, (zb.cell (p := ⟨g, 3, none⟩) lt).trans c3, (zb.cell (p := ⟨g, 4, none⟩) lt).trans c4, (zb.cell (p := ⟨P, 0, none⟩) slt).trans s0, (zb.cell (p := ⟨P, 1, none⟩) slt).trans s1, (zb.cell (p := ⟨P, 2, none⟩) slt).trans s2, (zb.cell (p := ⟨P, 3, none⟩) slt).trans s3, (zb.cell (p := ⟨P, 4, none⟩) slt).trans s4, (zb.cell (p := ⟨tb, tp + x * 13, none⟩) htb).trans t0, zb⟩ (fun hHeld => ?_)
        clear hK K
        try simp only [Act.put, List.setIfInBounds_toArray, List.set_cons_zero, List.set_cons_succ]
        refine wpAnyH_take (i := 3) (v := ?_) rfl (by kernel_rfl) (by kernel_rfl) (by kernel_rfl) (fun _ _ _ h => h) (Or.inl ⟨by rfl, ?_⟩) (by assumption) ?_
        rotate_left
        · intro w hSw; go_split_ands; go_simp; try with_reducible rfl
        simp only [Act.put, List.setIfInBounds_toArray, List.set_cons_zero, List.set_cons_succ, List.getElem_toArray, List.getElem_cons_zero, List.getElem_cons_succ]
        refine wpAnyH_take (i := 4) (v := ?_) rfl (by kernel_rfl) (by kernel_rfl) (by kernel_rfl) (fun _ _ _ h => h) (Or.inl ⟨by rfl, ?_⟩) (by assumption) ?_
        rotate_left
        · intro w hSw; go_split_ands; go_simp; try with_reducible rfl
        simp only [Act.put, List.setIfInBounds_toArray, List.set_cons_zero, List.set_cons_succ, List.getElem_toArray, List.getElem_cons_zero, List.getElem_cons_succ]
        refine wpAnyH_take (i := 5) (v := ?_) rfl (by kernel_rfl) (by kernel_rfl) (by kernel_rfl) (fun _ _ _ h => h) (Or.inl ⟨by rfl, ?_⟩) (by assumption) ?_
        rotate_left
        · intro w hSw; go_split_ands; go_simp; try with_reducible rfl
        simp only [Act.put, List.setIfInBounds_toArray, List.set_cons_zero, List.set_cons_succ, List.getElem_toArray, List.getElem_cons_zero, List.getElem_cons_succ]
        refine wpAnyH_take (i := 6) (v := ?_) rfl (by kernel_rfl) (by kernel_rfl) (by kernel_rfl) (fun _ _ _ h => h) (Or.inl ⟨by rfl, ?_⟩) (by assumption) ?_
        rotate_left
        · intro w hSw; go_split_ands; go_simp; try with_reducible rfl
        simp only [Act.put, List.setIfInBounds_toArray, List.set_cons_zero, List.set_cons_succ, List.getElem_toArray, List.getElem_cons_zero, List.getElem_cons_succ]
        refine wpAnyH_take (i := 7) (v := ?_) rfl (by kernel_rfl) (by kernel_rfl) (by kernel_rfl) (fun _ _ _ h => h) (Or.inl ⟨by rfl, ?_⟩) (by assumption) ?_
        rotate_left
        · intro w hSw; go_split_ands; go_simp; try with_reducible rfl
        simp only [Act.put, List.setIfInBounds_toArray, List.set_cons_zero, List.set_cons_succ, List.getElem_toArray, List.getElem_cons_zero, List.getElem_cons_succ]
        refine wpAnyH_ready (rs := [8]) (by kernel_rfl) (by simp) ?_
        refine AllReadyH.cons rfl (fun K hK => ?_) AllReadyH.nil
        go_simp
        refine (isthing_at HIT.out _).mono ?_
        rintro e w' ⟨rfl, hb⟩
        replace zb := below_on zb hb
        refine hK.out _ _ ⟨(zb.cell (p := ⟨g, 0, none⟩) lt).trans b0, (zb.cell (p := ⟨g, 1, none⟩) lt).trans b1, (zb.cell (p := ⟨g, 2, none⟩) lt).trans b2, (zb.cell (p := ⟨g, 3, none⟩) lt).trans c3, (zb.cell (p := ⟨g, 4, none⟩) lt).trans c4, (zb.cell (p := ⟨P, 0, none⟩) slt).trans s0, (zb.cell (p := ⟨P, 1, none⟩) slt).trans s1, (zb.cell (p := ⟨P, 2, none⟩) slt).trans s2, (zb.cell (p := ⟨P, 3, none⟩) slt).trans s3, (zb.cell (p := ⟨P, 4, none⟩) slt).trans s4, (zb.cell (p := ⟨tb, tp + x * 13, none⟩) htb).trans t0, zb⟩ (fun hHeld => ?_)
        clear hK K
        try simp only [Act.put, List.setIfInBounds_toArray, List.set_cons_zero, List.set_cons_succ]
        refine wpAnyH_take (i := 9) (v := ?_) rfl (by kernel_rfl) (by kernel_rfl) (by kernel_rfl) (fun _ _ _ h => h) (Or.inl ⟨by rfl, ?_⟩) (by assumption) ?_
        rotate_left
        · intro w hSw; go_split_ands; go_simp; try with_reducible rfl
        simp only [Act.put, List.setIfInBounds_toArray, List.set_cons_zero, List.set_cons_succ, List.getElem_toArray, List.getElem_cons_zero, List.getElem_cons_succ]
        refine wpAnyH_take (i := 10) (v := ?_) rfl (by kernel_rfl) (by kernel_rfl) (by kernel_rfl) (fun _ _ _ h => h) (Or.inl ⟨by rfl, ?_⟩) (by assumption) ?_
        rotate_left
        · intro w hSw; go_split_ands; go_simp; try with_reducible rfl
        simp only [Act.put, List.setIfInBounds_toArray, List.set_cons_zero, List.set_cons_succ, List.getElem_toArray, List.getElem_cons_zero, List.getElem_cons_succ]
        refine wpAnyH_take (i := 11) (v := ?_) rfl (by kernel_rfl) (by kernel_rfl) (by kernel_rfl) (fun _ _ _ h => h) (Or.inl ⟨by rfl, ?_⟩) (by assumption) ?_
        rotate_left
        · intro w hSw; go_split_ands; go_simp; try with_reducible rfl
        simp only [Act.put, List.setIfInBounds_toArray, List.set_cons_zero, List.set_cons_succ, List.getElem_toArray, List.getElem_cons_zero, List.getElem_cons_succ]
        refine wpAnyH_take (i := 12) (v := ?_) rfl (by kernel_rfl) (by kernel_rfl) (by kernel_rfl) (fun _ _ _ h => h) (Or.inl ⟨by rfl, ?_⟩) (by assumption) ?_
        rotate_left
        · intro w hSw; go_split_ands; go_simp; try with_reducible rfl
        simp only [Act.put, List.setIfInBounds_toArray, List.set_cons_zero, List.set_cons_succ, List.getElem_toArray, List.getElem_cons_zero, List.getElem_cons_succ]
        refine wpAnyH_take (i := 13) (v := ?_) rfl (by kernel_rfl) (by kernel_rfl) (by kernel_rfl) (fun _ _ _ h => h) (Or.inl ⟨by rfl, ?_⟩) (by assumption) ?_
        rotate_left
        · intro w hSw; go_split_ands; go_simp; try with_reducible rfl
        simp only [Act.put, List.setIfInBounds_toArray, List.set_cons_zero, List.set_cons_succ, List.getElem_toArray, List.getElem_cons_zero, List.getElem_cons_succ]
        refine wpAnyH_take (i := 14) (v := ?_) rfl (by kernel_rfl) (by kernel_rfl) (by kernel_rfl) (fun _ _ _ h => h) (Or.inl ⟨by rfl, ?_⟩) (by assumption) ?_
        rotate_left
        · intro w hSw; go_split_ands; go_simp; try with_reducible rfl
        simp only [Act.put, List.setIfInBounds_toArray, List.set_cons_zero, List.set_cons_succ, List.getElem_toArray, List.getElem_cons_zero, List.getElem_cons_succ]
        refine wpAnyH_take (i := 15) (v := ?_) rfl (by kernel_rfl) (by kernel_rfl) (by kernel_rfl) (fun _ _ _ h => h) (Or.inl ⟨by rfl, ?_⟩) (by assumption) ?_
        rotate_left
        · intro w hSw; go_split_ands; go_simp; try with_reducible rfl
        simp only [Act.put, List.setIfInBounds_toArray, List.set_cons_zero, List.set_cons_succ, List.getElem_toArray, List.getElem_cons_zero, List.getElem_cons_succ]
        refine wpAnyH_take (i := 16) (v := ?_) rfl (by kernel_rfl) (by kernel_rfl) (by kernel_rfl) (fun _ _ _ h => h) (Or.inl ⟨by rfl, ?_⟩) (by assumption) ?_
        rotate_left
        · intro w hSw; go_split_ands; go_simp; try with_reducible rfl
        simp only [Act.put, List.setIfInBounds_toArray, List.set_cons_zero, List.set_cons_succ, List.getElem_toArray, List.getElem_cons_zero, List.getElem_cons_succ]
        refine wpAnyH_take (i := 17) (v := ?_) rfl (by kernel_rfl) (by kernel_rfl) (by kernel_rfl) (fun _ _ _ h => h) (Or.inl ⟨by rfl, ?_⟩) (by assumption) ?_
        rotate_left
        · intro w hSw; go_split_ands; go_simp; try with_reducible rfl
        simp only [Act.put, List.setIfInBounds_toArray, List.set_cons_zero, List.set_cons_succ, List.getElem_toArray, List.getElem_cons_zero, List.getElem_cons_succ]
        refine wpAnyH_take (i := 18) (v := ?_) rfl (by kernel_rfl) (by kernel_rfl) (by kernel_rfl) (fun _ _ _ h => h) (Or.inl ⟨by rfl, ?_⟩) (by assumption) ?_
        rotate_left
        · intro w hSw; go_split_ands; go_simp; try with_reducible rfl
        simp only [Act.put, List.setIfInBounds_toArray, List.set_cons_zero, List.set_cons_succ, List.getElem_toArray, List.getElem_cons_zero, List.getElem_cons_succ]
        refine wpAnyH_take (i := 19) (v := ?_) rfl (by kernel_rfl) (by kernel_rfl) (by kernel_rfl) (fun _ _ _ h => h) (Or.inl ⟨by rfl, ?_⟩) (by assumption) ?_
        rotate_left
        · intro w hSw; go_split_ands; go_simp; try with_reducible rfl
        simp only [Act.put, List.setIfInBounds_toArray, List.set_cons_zero, List.set_cons_succ, List.getElem_toArray, List.getElem_cons_zero, List.getElem_cons_succ]
        refine wpAnyH_take (i := 20) (v := ?_) rfl (by kernel_rfl) (by kernel_rfl) (by kernel_rfl) (fun _ _ _ h => h) (Or.inl ⟨by rfl, ?_⟩) (by assumption) ?_
        rotate_left
        · intro w hSw; go_split_ands; go_simp; try with_reducible rfl
        simp only [Act.put, List.setIfInBounds_toArray, List.set_cons_zero, List.set_cons_succ, List.getElem_toArray, List.getElem_cons_zero, List.getElem_cons_succ]
        refine wpAnyH_take (i := 21) (v := ?_) rfl (by kernel_rfl) (by kernel_rfl) (by kernel_rfl) (fun _ _ _ h => h) (Or.inl ⟨by rfl, ?_⟩) (by assumption) ?_
        rotate_left
        · intro w hSw; go_split_ands; go_simp; try with_reducible rfl
        simp only [Act.put, List.setIfInBounds_toArray, List.set_cons_zero, List.set_cons_succ, List.getElem_toArray, List.getElem_cons_zero, List.getElem_cons_succ]
        refine wpAnyH_take (i := 22) (v := ?_) rfl (by kernel_rfl) (by kernel_rfl) (by kernel_rfl) (fun _ _ _ h => h) (Or.inl ⟨by rfl, ?_⟩) (by assumption) ?_
        rotate_left
        · intro w hSw; go_split_ands; go_simp; try with_reducible rfl
        simp only [Act.put, List.setIfInBounds_toArray, List.set_cons_zero, List.set_cons_succ, List.getElem_toArray, List.getElem_cons_zero, List.getElem_cons_succ]
        refine wpAnyH_take (i := 23) (v := ?_) rfl (by kernel_rfl) (by kernel_rfl) (by kernel_rfl) (fun _ _ _ h => h) (Or.inl ⟨by rfl, ?_⟩) (by assumption) ?_
        rotate_left
        · intro w hSw; go_split_ands; go_simp; try with_reducible rfl
        simp only [Act.put, List.setIfInBounds_toArray, List.set_cons_zero, List.set_cons_succ, List.getElem_toArray, List.getElem_cons_zero, List.getElem_cons_succ]
        refine wpAnyH_take (i := 24) (v := ?_) rfl (by kernel_rfl) (by kernel_rfl) (by kernel_rfl) (fun _ _ _ h => h) (Or.inl ⟨by rfl, ?_⟩) (by assumption) ?_
        rotate_left
        · intro w hSw; go_split_ands; go_simp; try with_reducible rfl
        simp only [Act.put, List.setIfInBounds_toArray, List.set_cons_zero, List.set_cons_succ, List.getElem_toArray, List.getElem_cons_zero, List.getElem_cons_succ]
        refine wpAnyH_take (i := 25) rfl (by kernel_rfl) (by kernel_rfl) (by kernel_rfl) (fun _ _ _ h => h) (Or.inr ⟨by rfl, rfl⟩) (by assumption) ?_
        simp only [Act.put, List.setIfInBounds_toArray, List.set_cons_zero, List.set_cons_succ, List.getElem_toArray, List.getElem_cons_zero, List.getElem_cons_succ]
        refine wpAnyH_take (i := 26) rfl (by kernel_rfl) (by kernel_rfl) (by kernel_rfl) (fun _ _ _ h => h) (Or.inr ⟨by rfl, rfl⟩) (by assumption) ?_
        simp only [Act.put, List.setIfInBounds_toArray, List.set_cons_zero, List.set_cons_succ, List.getElem_toArray, List.getElem_cons_zero, List.getElem_cons_succ]
        refine wpAnyH_take (i := 27) rfl (by kernel_rfl) (by kernel_rfl) (by kernel_rfl) (fun _ _ _ h => h) (Or.inr ⟨by rfl, rfl⟩) (by assumption) ?_
        simp only [Act.put, List.setIfInBounds_toArray, List.set_cons_zero, List.set_cons_succ, List.getElem_toArray, List.getElem_cons_zero, List.getElem_cons_succ]
        refine wpAnyH_take (i := 28) (v := ?_) rfl (by kernel_rfl) (by kernel_rfl) (by kernel_rfl) (fun _ _ _ h => h) (Or.inl ⟨by rfl, ?_⟩) (by assumption) ?_
        rotate_left
        · intro w hSw; go_split_ands; go_simp; try with_reducible rfl
        simp only [Act.put, List.setIfInBounds_toArray, List.set_cons_zero, List.set_cons_succ, List.getElem_toArray, List.getElem_cons_zero, List.getElem_cons_succ]
        refine wpAnyH_take (i := 29) (v := ?_) rfl (by kernel_rfl) (by kernel_rfl) (by kernel_rfl) (fun _ _ _ h => h) (Or.inl ⟨by rfl, ?_⟩) (by assumption) ?_
        rotate_left
        · intro w hSw; go_split_ands; go_simp; try with_reducible rfl
        simp only [Act.put, List.setIfInBounds_toArray, List.set_cons_zero, List.set_cons_succ, List.getElem_toArray, List.getElem_cons_zero, List.getElem_cons_succ]
        refine wpAnyH_done (by kernel_rfl) ?_ _
        go_wp2
        go_ret
        exact ⟨rfl, below_on HK2.out.old zb⟩
    · have HIT : Hid ((decide (0 ≤ th) && decide (th < (m : Int))) = false) := Lib.hid (by rw [Bool.and_eq_false_iff, decide_eq_false_iff_not, decide_eq_false_iff_not]; omega)
      rw [← Bool.and_assoc, HIT.out, Bool.false_and] at h
      subst h
      clear hin
      refine wp_region_held_drew (S := (fun w' => w'.cell? ⟨g, 0, none⟩ = some (.int .i64 a) ∧ w'.cell? ⟨g, 1, none⟩ = some (.int .i64 b) ∧ w'.cell? ⟨g, 2, none⟩ = some (.int .i64 c) ∧ w'.cell? ⟨g, 3, none⟩ = some (.slice A n ca) ∧ w'.cell? ⟨g, 4, none⟩ = some (.slice C m cc) ∧ w'.cell? ⟨P, 0, none⟩ = some (.int .i64 ty) ∧ w'.cell? ⟨P, 1, none⟩ = some (.int .i64 th) ∧ w'.cell? ⟨P, 2, none⟩ = some (.int .i64 ri) ∧ w'.cell? ⟨P, 3, none⟩ = some (.int .i64 ba) ∧ w'.cell? ⟨P, 4, none⟩ = some (.int .i64 up) ∧ Below w2.heap.size w2 w')) (by kernel_rfl) ⟨b0, b1, b2, c3, c4, s0, s1, s2, s3, s4, (below_self w2).drew⟩ (fun hHeld => ?_)
      refine wpAnyH_take (i := 0) (v := ?_) rfl (by kernel_rfl) (by kernel_rfl) (by kernel_rfl) (fun _ _ _ h => h) (Or.inl ⟨by rfl, ?_⟩) (by assumption) ?_
      rotate_left
      · intro w hSw; go_split_ands; go_simp; try with_reducible rfl
      simp only [Act.put, List.setIfInBounds_toArray, List.set_cons_zero, List.set_cons_succ, List.getElem_toArray, List.getElem_cons_zero]
      refine wpAnyH_take (i := 1) (v := ?_) rfl (by kernel_rfl) (by kernel_rfl) (by kernel_rfl) (fun _ _ _ h => h) (Or.inl ⟨by rfl, ?_⟩) (by assumption) ?_
      rotate_left
      · intro w hSw; go_split_ands; go_simp; try with_reducible rfl
      simp only [Act.put, List.setIfInBounds_toArray, List.set_cons_zero, List.set_cons_succ, List.getElem_toArray, List.getElem_cons_zero, List.getElem_cons_succ]
      refine wpAnyH_ready (rs := [2]) (by kernel_rfl) (by simp) ?_
      refine AllReadyH.cons rfl (fun K hK => ?_) AllReadyH.nil
      go_simp
      refine (cgood_at HGD.out _).mono ?_
      rintro e w' ⟨rfl, hb⟩
      have zb := below_on (below_self w2).drew hb
      refine hK.out _ _ ⟨(zb.cell (p := ⟨g, 0, none⟩) lt).trans b0, (zb.cell (p := ⟨g, 1, none⟩) lt).trans b1, (zb.cell (p := ⟨g, 2, none⟩) lt).trans b2, (zb.cell (p := ⟨g, 3, none⟩) lt).trans c3, (zb.cell (p := ⟨g, 4, none⟩) lt).trans c4, (zb.cell (p := ⟨P, 0, none⟩) slt).trans s0, (zb.cell (p := ⟨P, 1, none⟩) slt).trans s1, (zb.cell (p := ⟨P, 2, none⟩) slt).trans s2, (zb.cell (p := ⟨P, 3, none⟩) slt).trans s3, (zb.cell (p := ⟨P, 4, none⟩) slt).trans s4, zb⟩ (fun hHeld => ?_)
      clear hK K
      try simp only [Act.put, List.setIfInBounds_toArray, List.set_cons_zero, List.set_cons_succ]
      refine wpAnyH_take (i := 3) (v := ?_) rfl (by kernel_rfl) (by kernel_rfl) (by kernel_rfl) (fun _ _ _ h => h) (Or.inl ⟨by rfl, ?_⟩) (by assumption) ?_
      rotate_left
      · intro w hSw; go_split_ands; go_simp; try with_reducible rfl
      simp only [Act.put, List.setIfInBounds_toArray, List.set_cons_zero, List.set_cons_succ, List.getElem_toArray, List.getElem_cons_zero, List.getElem_cons_succ]
      refine wpAnyH_take (i := 4) (v := ?_) rfl (by kernel_rfl) (by kernel_rfl) (by kernel_rfl) (fun _ _ _ h => h) (Or.inl ⟨by rfl, ?_⟩) (by assumption) ?_
      rotate_left
      · intro w hSw; go_split_ands; go_simp; try with_reducible rfl
      simp only [Act.put, List.setIfInBounds_toArray, List.set_cons_zero, List.set_cons_succ, List.getElem_toArray, List.getElem_cons_zero, List.getElem_cons_succ]
      refine wpAnyH_take (i := 5) (v := ?_) rfl (by kernel_rfl) (by kernel_rfl) (by kernel_rfl) (fun _ _ _ h => h) (Or.inl ⟨by rfl, ?_⟩) (by assumption) ?_
      rotate_left
      · intro w hSw; go_split_ands; go_simp; try with_reducible rfl
      simp only [Act.put, List.setIfInBounds_toArray, List.set_cons_zero, List.set_cons_succ, List.getElem_toArray, List.getElem_cons_zero, List.getElem_cons_succ]
      refine wpAnyH_take (i := 6) (v := ?_) rfl (by kernel_rfl) (by kernel_rfl) (by kernel_rfl) (fun _ _ _ h => h) (Or.inl ⟨by rfl, ?_⟩) (by assumption) ?_
      rotate_left
      · intro w hSw; go_split_ands; go_simp; try with_reducible rfl
      simp only [Act.put, List.setIfInBounds_toArray, List.set_cons_zero, List.set_cons_succ, List.getElem_toArray, List.getElem_cons_zero, List.getElem_cons_succ]
      refine wpAnyH_take (i := 7) (v := ?_) rfl (by kernel_rfl) (by kernel_rfl) (by kernel_rfl) (fun _ _ _ h => h) (Or.inl ⟨by rfl, ?_⟩) (by assumption) ?_
      rotate_left
      · intro w hSw; go_split_ands; go_simp; try with_reducible rfl
      simp only [Act.put, List.setIfInBounds_toArray, List.set_cons_zero, List.set_cons_succ, List.getElem_toArray, List.getElem_cons_zero, List.getElem_cons_succ]
      refine wpAnyH_ready (rs := [8]) (by kernel_rfl) (by simp) ?_
      refine AllReadyH.cons rfl (fun K hK => ?_) AllReadyH.nil
      go_simp
      refine (isthing_at HIT.out _).mono ?_
      rintro e w' ⟨rfl, hb⟩
      replace zb := below_on zb hb
      refine hK.out _ _ ⟨(zb.cell (p := ⟨g, 0, none⟩) lt).trans b0, (zb.cell (p := ⟨g, 1, none⟩) lt).trans b1, (zb.cell (p := ⟨g, 2, none⟩) lt).trans b2, (zb.cell (p := ⟨g, 3, none⟩) lt).trans c3, (zb.cell (p := ⟨g, 4, none⟩) lt).trans c4, (zb.cell (p := ⟨P, 0, none⟩) slt).trans s0, (zb.cell (p := ⟨P, 1, none⟩) slt).trans s1, (zb.cell (p := ⟨P, 2, none⟩) slt).trans s2, (zb.cell (p := ⟨P, 3, none⟩) slt).trans s3, (zb.cell (p := ⟨P, 4, none⟩) slt).trans s4, zb⟩ (fun hHeld => ?_)
      clear hK K
      try simp only [Act.put, List.setIfInBounds_toArray, List.set_cons_zero, List.set_cons_succ]
      refine wpAnyH_take (i := 9) (v := ?_) rfl (by kernel_rfl) (by kernel_rfl) (by kernel_rfl) (fun _ _ _ h => h) (Or.inl ⟨by rfl, ?_⟩) (by assumption) ?_
      rotate_left
      · intro w hSw; go_split_ands; go_simp; try with_reducible rfl
      simp only [Act.put, List.setIfInBounds_toArray, List.set_cons_zero, List.set_cons_succ, List.getElem_toArray, List.getElem_cons_zero, List.getElem_cons_succ]
      refine wpAnyH_take (i := 10) (v := ?_) rfl (by kernel_rfl) (by kernel_rfl) (by kernel_rfl) (fun _ _ _ h => h) (Or.inl ⟨by rfl, ?_⟩) (by assumption) ?_
      rotate_left
      · intro w hSw; go_split_ands; go_simp; try with_reducible rfl
      simp only [Act.put, List.setIfInBounds_toArray, List.set_cons_zero, List.set_cons_succ, List.getElem_toArray, List.getElem_cons_zero, List.getElem_cons_succ]
      refine wpAnyH_take (i := 11) rfl (by kernel_rfl) (by kernel_rfl) (by kernel_rfl) (fun _ _ _ h => h) (Or.inr ⟨by rfl, rfl⟩) (by assumption) ?_
      simp only [Act.put, List.setIfInBounds_toArray, List.set_cons_zero, List.set_cons_succ, List.getElem_toArray, List.getElem_cons_zero, List.getElem_cons_succ]
      refine wpAnyH_take (i := 12) rfl (by kernel_rfl) (by kernel_rfl) (by kernel_rfl) (fun _ _ _ h => h) (Or.inr ⟨by rfl, rfl⟩) (by assumption) ?_
      simp only [Act.put, List.setIfInBounds_toArray, List.set_cons_zero, List.set_cons_succ, List.getElem_toArray, List.getElem_cons_zero, List.getElem_cons_succ]
      refine wpAnyH_take (i := 13) rfl (by kernel_rfl) (by kernel_rfl) (by kernel_rfl) (fun _ _ _ h => h) (Or.inr ⟨by rfl, rfl⟩) (by assumption) ?_
      simp only [Act.put, List.setIfInBounds_toArray, List.set_cons_zero, List.set_cons_succ, List.getElem_toArray, List.getElem_cons_zero, List.getElem_cons_succ]
      refine wpAnyH_take (i := 14) rfl (by kernel_rfl) (by kernel_rfl) (by kernel_rfl) (fun _ _ _ h => h) (Or.inr ⟨by rfl, rfl⟩) (by assumption) ?_
      simp only [Act.put, List.setIfInBounds_toArray, List.set_cons_zero, List.set_cons_succ, List.getElem_toArray, List.getElem_cons_zero, List.getElem_cons_succ]
      refine wpAnyH_take (i := 15) rfl (by kernel_rfl) (by kernel_rfl) (by kernel_rfl) (fun _ _ _ h => h) (Or.inr ⟨by rfl, rfl⟩) (by assumption) ?_
      simp only [Act.put, List.setIfInBounds_toArray, List.set_cons_zero, List.set_cons_succ, List.getElem_toArray, List.getElem_cons_zero, List.getElem_cons_succ]
      refine wpAnyH_take (i := 16) rfl (by kernel_rfl) (by kernel_rfl) (by kernel_rfl) (fun _ _ _ h => h) (Or.inr ⟨by rfl, rfl⟩) (by assumption) ?_
      simp only [Act.put, List.setIfInBounds_toArray, List.set_cons_zero, List.set_cons_succ, List.getElem_toArray, List.getElem_cons_zero, List.getElem_cons_succ]
      refine wpAnyH_take (i := 17) rfl (by kernel_rfl) (by kernel_rfl) (by kernel_rfl) (fun _ _ _ h => h) (Or.inr ⟨by rfl, rfl⟩) (by assumption) ?_
      simp only [Act.put, List.setIfInBounds_toArray, List.set_cons_zero, List.set_cons_succ, List.getElem_toArray, List.getElem_cons_zero, List.getElem_cons_succ]
      refine wpAnyH_take (i := 18) rfl (by kernel_rfl) (by kernel_rfl) (by kernel_rfl) (fun _ _ _ h => h) (Or.inr ⟨by rfl, rfl⟩) (by assumption) ?_
      simp only [Act.put, List.setIfInBounds_toArray, List.set_cons_zero, List.set_cons_succ, List.getElem_toArray, List.getElem_cons_zero, List.getElem_cons_succ]
      refine wpAnyH_take (i := 19) rfl (by kernel_rfl) (by kernel_rfl) (by kernel_rfl) (fun _ _ _ h => h) (Or.inr ⟨by rfl, rfl⟩) (by assumption) ?_
      simp only [Act.put, List.setIfInBounds_toArray, List.set_cons_zero, List.set_cons_succ, List.getElem_toArray, List.getElem_cons_zero, List.getElem_cons_succ]
      refine wpAnyH_take (i := 20) rfl (by kernel_rfl) (by kernel_rfl) (by kernel_rfl) (fun _ _ _ h => h) (Or.inr ⟨by rfl, rfl⟩) (by assumption) ?_
      simp only [Act.put, List.setIfInBounds_toArray, List.set_cons_zero, List.set_cons_succ, List.getElem_toArray, List.getElem_cons_zero, List.getElem_cons_succ]
      refine wpAnyH_take (i := 21) rfl (by kernel_rfl) (by kernel_rfl) (by kernel_rfl) (fun _ _ _ h => h) (Or.inr ⟨by rfl, rfl⟩) (by assumption) ?_
      simp only [Act.put, List.setIfInBounds_toArray, List.set_cons_zero, List.set_cons_succ, List.getElem_toArray, List.getElem_cons_zero, List.getElem_cons_succ]
      refine wpAnyH_take (i := 22) rfl (by kernel_rfl) (by kernel_rfl) (by kernel_rfl) (fun _ _ _ h => h) (Or.inr ⟨by rfl, rfl⟩) (by assumption) ?_
      simp only [Act.put, List.setIfInBounds_toArray, List.set_cons_zero, List.set_cons_succ, List.getElem_toArray, List.getElem_cons_zero, List.getElem_cons_succ]
      refine wpAnyH_take (i := 23) (v := ?_) rfl (by kernel_rfl) (by kernel_rfl) (by kernel_rfl) (fun _ _ _ h => h) (Or.inl ⟨by rfl, ?_⟩) (by assumption) ?_
      rotate_left
      · intro w hSw; go_split_ands; go_simp; try with_reducible rfl
      simp only [Act.put, List.setIfInBounds_toArray, List.set_cons_zero, List.set_cons_succ, List.getElem_toArray, List.getElem_cons_zero, List.getElem_cons_succ]
      refine wpAnyH_take (i := 24) (v := ?_) rfl (by kernel_rfl) (by kernel_rfl) (by kernel_rfl) (fun _ _ _ h => h) (Or.inl ⟨by rfl, ?_⟩) (by assumption) ?_
      rotate_left
      · intro w hSw; go_split_ands; go_simp; try with_reducible rfl
      simp only [Act.put, List.setIfInBounds_toArray, List.set_cons_zero, List.set_cons_succ, List.getElem_toArray, List.getElem_cons_zero, List.getElem_cons_succ]
      refine wpAnyH_take (i := 25) rfl (by kernel_rfl) (by kernel_rfl) (by kernel_rfl) (fun _ _ _ h => h) (Or.inr ⟨by rfl, rfl⟩) (by assumption) ?_
      simp only [Act.put, List.setIfInBounds_toArray, List.set_cons_zero, List.set_cons_succ, List.getElem_toArray, List.getElem_cons_zero, List.getElem_cons_succ]
      refine wpAnyH_take (i := 26) rfl (by kernel_rfl) (by kernel_rfl) (by kernel_rfl) (fun _ _ _ h => h) (Or.inr ⟨by rfl, rfl⟩) (by assumption) ?_
      simp only [Act.put, List.setIfInBounds_toArray, List.set_cons_zero, List.set_cons_succ, List.getElem_toArray, List.getElem_cons_zero, List.getElem_cons_succ]
      refine wpAnyH_take (i := 27) rfl (by kernel_rfl) (by kernel_rfl) (by kernel_rfl) (fun _ _ _ h => h) (Or.inr ⟨by rfl, rfl⟩) (by assumption) ?_
      simp only [Act.put, List.setIfInBounds_toArray, List.set_cons_zero, List.set_cons_succ, List.getElem_toArray, List.getElem_cons_zero, List.getElem_cons_succ]
      refine wpAnyH_take (i := 28) (v := ?_) rfl (by kernel_rfl) (by kernel_rfl) (by kernel_rfl) (fun _ _ _ h => h) (Or.inl ⟨by rfl, ?_⟩) (by assumption) ?_
      rotate_left
      · intro w hSw; go_split_ands; go_simp; try with_reducible rfl
      simp only [Act.put, List.setIfInBounds_toArray, List.set_cons_zero, List.set_cons_succ, List.getElem_toArray, List.getElem_cons_zero, List.getElem_cons_succ]
      refine wpAnyH_take (i := 29) (v := ?_) rfl (by kernel_rfl) (by kernel_rfl) (by kernel_rfl) (fun _ _ _ h => h) (Or.inl ⟨by rfl, ?_⟩) (by assumption) ?_
      rotate_left
      · intro w hSw; go_split_ands; go_simp; try with_reducible rfl
      simp only [Act.put, List.setIfInBounds_toArray, List.set_cons_zero, List.set_cons_succ, List.getElem_toArray, List.getElem_cons_zero, List.getElem_cons_succ]
      refine wpAnyH_done (by kernel_rfl) ?_ _
      go_wp2
      go_ret
      exact ⟨rfl, below_on HK2.out.old zb⟩
  · rw [if_pos rfl] at h
    go_wp2
    go_ret
    exact ⟨by rw [← h]; rfl, HK2.out.old⟩
end Go.Proofs.YtkpbfbmkolgmgaaGreat
