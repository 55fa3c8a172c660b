/-
  What take answers, as plain data: slots emptied, with all that no slot has any more; what is left may be. Condition: none.
-/
import Derived.Test.YtkpbfbmkolgmgaaGreatTDa
import Derived.Test.YtkpbfbmkolgmgaaGreatTF1
import Derived.Test.YtkpbfbmkolgmgaaGreatTB3
namespace Go.Proofs.YtkpbfbmkolgmgaaGreat
open Go.RowKit
set_option linter.unusedSimpArgs false
set_option linter.unusedVariables false

/-- a slot is full -/
def fullB (x : Sl) : Bool := !x.c.non
def fullN (l : List Sl) : Nat := l.countP fullB
/-- what told of slot k tells of u -/
def ux (k : Nat) (u : Int) (x : Sl) : Sl := ⟨x.c, if x.up = (k : Int) then u else x.up⟩
def tx (k : Nat) (t : Tng) : Tng := { t with frm := if t.frm = (k : Int) + 1 then 0 else t.frm }
def cutS (s : St) (k : Nat) : St := ⟨s.g, (s.sl.set k ⟨.none, -1⟩).map (ux k (slAt s.sl k).up), s.th.map (tx k)⟩
def rootZ (s : St) (t : Int) : Bool := decide (2 ≤ t) && decide (t < 2 + s.g.t)
def heldZ (l : List Sl) (t : Int) : Bool := l.any fun x => fullB x && decide (x.c.th = t)
def goneT (s : St) (t : Nat) : St := ⟨s.g, s.sl, s.th.set t .zero⟩
def inNode (t : Tng) : List Nat := if t.ty = 2 then (List.range (tw2 t.bits).toNat).map fun i => t.base.toNat + i else []
def runE {α : Type} (e : St → α → St × Nat) : List α → St → St × Nat
  | [], s => (s, 0)
  | k :: l, s => match e s k with
    | (s1, n) => match runE e l s1 with
      | (s2, m) => (s2, n + m)
def empF : Nat → St → Nat → St × Nat
  | 0, s, _ => (s, 0)
  | f + 1, s, k =>
    if (slAt s.sl k).c.non = true then (s, 0)
    else if (rootZ s (slAt s.sl k).c.th || heldZ (cutS s k).sl (slAt s.sl k).c.th) = true then (cutS s k, 1)
    else match runE (empF f) (inNode (thAt (cutS s k).th (slAt s.sl k).c.th.toNat)) (goneT (cutS s k) (slAt s.sl k).c.th.toNat) with
      | (s2, m) => (s2, 1 + m)
theorem runE_nil {α : Type} (e : St → α → St × Nat) (s : St) : runE e [] s = (s, 0) := rfl
theorem runE_cons {α : Type} (e : St → α → St × Nat) (k : α) (l : List α) (s : St) : runE e (k :: l) s = ((runE e l (e s k).1).1, (e s k).2 + (runE e l (e s k).1).2) := rfl
theorem runE_snoc {α : Type} (e : St → α → St × Nat) : ∀ (l : List α) (s : St) (k : α), runE e (l ++ [k]) s = ((e (runE e l s).1 k).1, (runE e l s).2 + (e (runE e l s).1 k).2)
  | [], s, k => by rw [List.nil_append, runE_cons, runE_nil, runE_nil]; simp
  | j :: l, s, k => by
    rw [List.cons_append, runE_cons, runE_snoc e l, runE_cons]
    simp only [Nat.add_assoc]
theorem emp_none {f : Nat} {s : St} {k : Nat} (h : (slAt s.sl k).c.non = true) : empF f s k = (s, 0) := by
  cases f with
  | zero => rfl
  | succ f => rw [empF, if_pos h]
theorem emp_kept {f : Nat} {s : St} {k : Nat} (h : (slAt s.sl k).c.non = false) (h2 : (rootZ s (slAt s.sl k).c.th || heldZ (cutS s k).sl (slAt s.sl k).c.th) = true) : empF (f + 1) s k = (cutS s k, 1) := by
  rw [empF, if_neg (by rw [h]; decide), if_pos h2]
theorem emp_gone {f : Nat} {s : St} {k : Nat} (h : (slAt s.sl k).c.non = false) (h2 : (rootZ s (slAt s.sl k).c.th || heldZ (cutS s k).sl (slAt s.sl k).c.th) = false) :
    empF (f + 1) s k = ((runE (empF f) (inNode (thAt (cutS s k).th (slAt s.sl k).c.th.toNat)) (goneT (cutS s k) (slAt s.sl k).c.th.toNat)).1, 1 + (runE (empF f) (inNode (thAt (cutS s k).th (slAt s.sl k).c.th.toNat)) (goneT (cutS s k) (slAt s.sl k).c.th.toNat)).2) := by
  rw [empF, if_neg (by rw [h]; decide), if_neg (by rw [h2]; decide)]

/-! ### what is left may be, but for what came of what -/
structure Liv (s : St) : Prop where
  ok : s.g.ok = true
  ls : (s.sl.length : Int) = s.g.s
  lt : (s.th.length : Int) = s.g.k
  full : ∀ k, k < s.sl.length → (slAt s.sl k).c.non = false → 0 ≤ (slAt s.sl k).c.th ∧ (slAt s.sl k).c.th.toNat < s.th.length ∧ (thAt s.th (slAt s.sl k).c.th.toNat).ty = (slAt s.sl k).c.ty ∧ (slAt s.sl k).c.ty ≠ 0
  emp : ∀ k, k < s.sl.length → (slAt s.sl k).c.non = true → slAt s.sl k = ⟨.none, -1⟩
  tok : ∀ t, t < s.th.length → (thAt s.th t).good = true
  nd : ∀ t, t < s.th.length → (thAt s.th t).ty = 2 → (thAt s.th t).base + tw2 (thAt s.th t).bits ≤ s.sl.length
  root : ∀ t : Nat, (t : Int) < s.g.t → thAt s.th (2 + t) = rootT t
  held : ∀ t, t < s.th.length → (thAt s.th t).ty ≠ 0 → rootZ s (t : Int) = true ∨ heldZ s.sl (t : Int) = true
theorem heldZ_iff {l : List Sl} {t : Int} : heldZ l t = true ↔ ∃ j, j < l.length ∧ (slAt l j).c.non = false ∧ (slAt l j).c.th = t := by
  rw [heldZ, List.any_eq_true]
  constructor
  · rintro ⟨x, hx, h⟩
    obtain ⟨j, hj, e⟩ := List.getElem_of_mem hx
    have ex : slAt l j = x := slAt_at (by rw [List.getElem?_eq_getElem hj, e])
    simp only [fullB, Bool.and_eq_true, Bool.not_eq_true', decide_eq_true_eq] at h
    exact ⟨j, hj, by rw [ex]; exact h.1, by rw [ex]; exact h.2⟩
  · rintro ⟨j, hj, h1, h2⟩
    exact ⟨slAt l j, List.mem_of_getElem? (slAt_get hj), by simp [fullB, h1, h2]⟩
theorem cut_sl (s : St) (k : Nat) : (cutS s k).sl.length = s.sl.length := by simp [cutS]
theorem cut_th (s : St) (k : Nat) : (cutS s k).th.length = s.th.length := by simp [cutS]
theorem cut_slAt {s : St} {k j : Nat} (hk : k < s.sl.length) (hj : j < s.sl.length) : slAt (cutS s k).sl j = if j = k then ⟨.none, -1⟩ else ux k (slAt s.sl k).up (slAt s.sl j) := by
  refine slAt_at ?_
  show ((s.sl.set k ⟨.none, -1⟩).map (ux k (slAt s.sl k).up))[j]? = _
  rw [List.getElem?_map]
  by_cases e : j = k
  · subst e
    rw [List.getElem?_set_self hk, if_pos rfl]
    show some (ux j (slAt s.sl j).up ⟨.none, -1⟩) = _
    rw [ux, if_neg (show ¬ ((-1 : Int) = (j : Int)) by omega)]
  · rw [List.getElem?_set_ne (fun q => e q.symm), slAt_get hj, if_neg e]
    rfl
theorem cut_thAt (s : St) (k j : Nat) : thAt (cutS s k).th j = tx k (thAt s.th j) := by
  by_cases hj : j < s.th.length
  · refine thAt_at ?_
    show (s.th.map (tx k))[j]? = _
    rw [List.getElem?_map, thAt_get hj]
    rfl
  · rw [thAt_out (l := s.th) (by omega), thAt_out (l := (cutS s k).th) (by rw [cut_th]; omega)]
    show _ = tx k (Tng.of 0)
    rw [tx, show (Tng.of 0).frm = 0 from rfl, if_neg (by omega)]
    rfl
theorem ux_c (k : Nat) (u : Int) (x : Sl) : (ux k u x).c = x.c := rfl
theorem cut_non {s : St} {k j : Nat} (hk : k < s.sl.length) (hj : j < s.sl.length) : (slAt (cutS s k).sl j).c.non = (decide (j = k) || (slAt s.sl j).c.non) := by
  rw [cut_slAt hk hj]
  by_cases e : j = k
  · rw [if_pos e, decide_eq_true e]; rfl
  · rw [if_neg e, decide_eq_false e]; rfl
theorem cut_full {s : St} {k : Nat} (hk : k < s.sl.length) (h : (slAt s.sl k).c.non = false) : fullN (cutS s k).sl + 1 = fullN s.sl := by
  show ((s.sl.set k ⟨.none, -1⟩).map (ux k (slAt s.sl k).up)).countP fullB + 1 = _
  rw [List.countP_map]
  have e : (fullB ∘ ux k (slAt s.sl k).up) = fullB := rfl
  have hx : s.sl[k] = slAt s.sl k := by
    have := slAt_get hk
    rw [List.getElem?_eq_getElem hk] at this
    injection this
  have hp : fullB s.sl[k] = true := by rw [hx, fullB, h]; rfl
  rw [e, List.countP_set hk, if_pos hp, if_neg (show ¬ fullB ⟨.none, -1⟩ = true by decide)]
  have : 0 < s.sl.countP fullB := List.countP_pos_iff.2 ⟨_, List.getElem_mem hk, hp⟩
  show _ = s.sl.countP fullB
  omega
theorem full_zero {l : List Sl} (h : fullN l = 0) {k : Nat} (hk : k < l.length) : (slAt l k).c.non = true := by
  rw [fullN, List.countP_eq_zero] at h
  have := h (slAt l k) (List.mem_of_getElem? (slAt_get hk))
  simpa [fullB] using this
theorem tx_good {k : Nat} {t : Tng} (h : t.good = true) : (tx k t).good = true := by
  have G := tng_good.1 h
  unfold tx
  by_cases e : t.frm = (k : Int) + 1
  · rw [if_pos e]
    refine tng_good.2 ?_
    cases G with
    | full w b f h1 h2 h3 h4 => exact Gth.full w b 0 h1 h2 (by omega) (by omega)
    | none => exact absurd e (by show ¬ ((0 : Int) = (k : Int) + 1); omega)
    | room => exact absurd e (by show ¬ ((0 : Int) = (k : Int) + 1); omega)
    | node => exact absurd e (by show ¬ ((0 : Int) = (k : Int) + 1); omega)
    | mail => exact absurd e (by show ¬ ((0 : Int) = (k : Int) + 1); omega)
    | bell => exact absurd e (by show ¬ ((0 : Int) = (k : Int) + 1); omega)
    | leaf => exact absurd e (by show ¬ ((0 : Int) = (k : Int) + 1); omega)
  · rw [if_neg e]
    exact h
theorem Liv.of {s : St} (G : Gst s) : Liv s := by
  refine ⟨G.ok, G.lens.1, G.lens.2, fun k hk h => ?_, fun k hk h => G.empAt hk h, G.thok, fun t ht h2 => ?_, fun t ht => ?_, fun t ht h => ?_⟩
  · have F := G.fsl hk (G.fullTy hk h)
    exact ⟨F.th0, F.th, F.thty, G.fullTy hk h⟩
  · exact (nd_of G ht h2).top
  · have := G.k3 t ht
    rw [St.k3] at this
    exact Tng.eq_iff.1 this
  · have h7 := G.k7 t ht
    rw [St.k7, Bool.and_eq_true, Bool.not_eq_true', Bool.and_eq_false_iff] at h7
    rcases h7.1 with q | q
    · simp [h] at q
    · rw [Bool.and_eq_false_iff] at q
      rcases q with q | q
      · refine .inl ?_
        simp only [St.root, Bool.not_eq_false', Bool.and_eq_true, decide_eq_true_eq] at q
        simp only [rootZ, Bool.and_eq_true, decide_eq_true_eq]
        omega
      · refine .inr ?_
        rw [List.isEmpty_eq_false_iff] at q
        obtain ⟨j, hj⟩ := List.exists_mem_of_ne_nil _ q
        obtain ⟨h1, h2, h3⟩ := mem_holdN.1 hj
        refine heldZ_iff.2 ⟨j, h1, ?_, h3⟩
        rw [Bool.eq_false_iff]
        intro e
        rw [non_ty e] at h2
        exact h2 rfl
theorem Liv.cut {s : St} (L : Liv s) {k : Nat} (hk : k < s.sl.length) (t : Nat) (ht : (slAt s.sl k).c.th = (t : Int)) (hf : (slAt s.sl k).c.non = false)
    (h : (rootZ s t || heldZ (cutS s k).sl t) = true) : Liv (cutS s k) := by
  have hl := cut_sl s k
  have hm := cut_th s k
  refine ⟨L.ok, by rw [hl]; exact L.ls, by rw [hm]; exact L.lt, fun j hj hj2 => ?_, fun j hj hj2 => ?_, fun j hj => ?_, fun j hj h2 => ?_, fun j hj => ?_, fun j hj h2 => ?_⟩
  · rw [hl] at hj
    rw [cut_non hk hj, Bool.or_eq_false_iff, decide_eq_false_iff_not] at hj2
    rw [cut_slAt hk hj, if_neg hj2.1, cut_thAt, hm]
    exact L.full j hj hj2.2
  · rw [hl] at hj
    rw [cut_non hk hj, Bool.or_eq_true, decide_eq_true_eq] at hj2
    rw [cut_slAt hk hj]
    by_cases e : j = k
    · rw [if_pos e]
    · rw [if_neg e, L.emp j hj (hj2.resolve_left e), ux, if_neg (show ¬ ((-1 : Int) = (k : Int)) by omega)]
  · rw [hm] at hj
    rw [cut_thAt]
    exact tx_good (L.tok j hj)
  · rw [hm] at hj
    rw [cut_thAt] at h2 ⊢
    rw [hl]
    exact L.nd j hj h2
  · rw [cut_thAt, L.root j hj, tx, show (rootT j).frm = 0 from rfl, if_neg (by omega)]
    rfl
  · rw [hm] at hj
    rw [cut_thAt] at h2
    rcases L.held j hj h2 with q | q
    · exact .inl q
    · by_cases e : j = t
      · subst e
        rw [Bool.or_eq_true] at h
        exact h
      · obtain ⟨i, hi, i2, i3⟩ := heldZ_iff.1 q
        refine .inr (heldZ_iff.2 ⟨i, by rw [hl]; exact hi, ?_⟩)
        have : i ≠ k := fun q => by subst q; omega
        rw [cut_slAt hk hi, if_neg this]
        exact ⟨i2, i3⟩
theorem Liv.gone {s : St} (L : Liv s) {k : Nat} (hk : k < s.sl.length) (t : Nat) (ht : (slAt s.sl k).c.th = (t : Int)) (hf : (slAt s.sl k).c.non = false)
    (hr : rootZ s t = false) (hh : heldZ (cutS s k).sl t = false) : Liv (goneT (cutS s k) t) := by
  have hl := cut_sl s k
  have hm : (goneT (cutS s k) t).th.length = s.th.length := by rw [goneT, List.length_set, cut_th]
  have htl : t < (cutS s k).th.length := by have := (L.full k hk hf).2.1; rw [ht] at this; rw [cut_th]; simpa using this
  have hta : ∀ j, thAt (goneT (cutS s k) t).th j = if j = t then .zero else tx k (thAt s.th j) := fun j => by
    rw [goneT, thAt_set htl, cut_thAt]
  have hrt : ∀ j : Nat, (j : Int) < s.g.t → 2 + j ≠ t := fun j hj e => by
    subst e
    have : rootZ s ((2 + j : Nat) : Int) = true := by simp only [rootZ, Bool.and_eq_true, decide_eq_true_eq]; omega
    rw [this] at hr; cases hr
  refine ⟨L.ok, by rw [goneT, hl]; exact L.ls, by rw [hm]; exact L.lt, fun j hj hj2 => ?_, fun j hj hj2 => ?_, fun j hj => ?_, fun j hj h2 => ?_, fun j hj => ?_, fun j hj h2 => ?_⟩
  · have hj' := hj
    rw [goneT, hl] at hj
    have hj3 := hj2
    rw [goneT, cut_non hk hj, Bool.or_eq_false_iff, decide_eq_false_iff_not] at hj2
    have hne : (slAt (cutS s k).sl j).c.th ≠ (t : Int) := fun e => by
      have : heldZ (cutS s k).sl t = true := heldZ_iff.2 ⟨j, hj', hj3, e⟩
      rw [this] at hh; cases hh
    have e := cut_slAt hk hj
    rw [if_neg hj2.1] at e
    obtain ⟨f1, f2, f3, f4⟩ := L.full j hj hj2.2
    have hc : (slAt (goneT (cutS s k) t).sl j).c = (slAt s.sl j).c := by rw [goneT, e]; rfl
    rw [hc, hm, hta, if_neg (by rw [e] at hne; rw [ux_c] at hne; omega)]
    exact ⟨f1, f2, f3, f4⟩
  · rw [goneT, hl] at hj
    rw [goneT, cut_non hk hj, Bool.or_eq_true, decide_eq_true_eq] at hj2
    rw [goneT, cut_slAt hk hj]
    by_cases e : j = k
    · rw [if_pos e]
    · rw [if_neg e, L.emp j hj (hj2.resolve_left e), ux, if_neg (show ¬ ((-1 : Int) = (k : Int)) by omega)]
  · rw [hm] at hj
    rw [hta]
    by_cases e : j = t
    · rw [if_pos e]; decide
    · rw [if_neg e]; exact tx_good (L.tok j hj)
  · rw [hm] at hj
    rw [hta] at h2 ⊢
    by_cases e : j = t
    · rw [if_pos e] at h2; cases h2
    · rw [if_neg e] at h2 ⊢
      rw [goneT, hl]
      exact L.nd j hj h2
  · rw [hta, if_neg (hrt j hj), L.root j hj, tx, show (rootT j).frm = 0 from rfl, if_neg (by omega)]
    rfl
  · rw [hm] at hj
    rw [hta] at h2
    by_cases e : j = t
    · rw [if_pos e] at h2; exact absurd rfl h2
    · rw [if_neg e] at h2
      rcases L.held j hj h2 with q | q
      · exact .inl q
      · obtain ⟨i, hi, i2, i3⟩ := heldZ_iff.1 q
        have : i ≠ k := fun q => by subst q; omega
        refine .inr (heldZ_iff.2 ⟨i, by rw [goneT, hl]; exact hi, ?_⟩)
        rw [goneT, cut_slAt hk hi, if_neg this]
        exact ⟨i2, i3⟩

/-! ### what is told of slots that are emptied -/
structure Emd (s : St) (r : St × Nat) : Prop where
  liv : Liv r.1
  g : r.1.g = s.g
  sl : r.1.sl.length = s.sl.length
  th : r.1.th.length = s.th.length
  num : fullN r.1.sl + r.2 = fullN s.sl
  non : ∀ j, j < s.sl.length → (slAt s.sl j).c.non = true → (slAt r.1.sl j).c.non = true
theorem Emd.none {s : St} (L : Liv s) : Emd s (s, 0) := ⟨L, rfl, rfl, rfl, rfl, fun _ _ h => h⟩
theorem Emd.next {s : St} {r q : St × Nat} (h : Emd s r) (k : Emd r.1 q) : Emd s (q.1, r.2 + q.2) :=
  ⟨k.liv, k.g.trans h.g, k.sl.trans h.sl, k.th.trans h.th, by have := h.num; have := k.num; show fullN q.1.sl + (r.2 + q.2) = _; omega, fun j hj hn => k.non j (by rw [h.sl]; exact hj) (h.non j hj hn)⟩
theorem runE_emd {α : Type} {e : St → α → St × Nat} {n : Nat} {P : α → Prop} (he : ∀ s k, Liv s → s.sl.length = n → P k → Emd s (e s k)) : ∀ (l : List α) (s : St), Liv s → s.sl.length = n → (∀ k ∈ l, P k) → Emd s (runE e l s)
  | [], s, L, _, _ => Emd.none L
  | k :: l, s, L, hn, hl => by
    have h := he s k L hn (hl k (List.mem_cons_self ..))
    rw [runE_cons]
    exact h.next (runE_emd he l _ h.liv (h.sl.trans hn) fun j hj => hl j (List.mem_cons_of_mem _ hj))
theorem inNode_lt {s : St} (L : Liv s) {t : Nat} (ht : t < s.th.length) {k : Nat} (hk : k ∈ inNode (thAt s.th t)) : k < s.sl.length := by
  unfold inNode at hk
  by_cases e : (thAt s.th t).ty = 2
  · rw [if_pos e, List.mem_map] at hk
    obtain ⟨i, hi, rfl⟩ := hk
    rw [List.mem_range] at hi
    have h1 := L.nd t ht e
    have G := tng_good.1 (L.tok t ht)
    have h0 : 0 ≤ (thAt s.th t).base := by
      generalize thAt s.th t = x at G e
      cases G with
      | node b s h1 h2 h3 h4 => exact h3
      | _ => cases e
    have : 0 ≤ tw2 (thAt s.th t).bits := by unfold tw2; exact Int.pow_nonneg (by decide)
    omega
  · rw [if_neg e] at hk
    cases hk
theorem inNode_tx (k : Nat) (t : Tng) : inNode (tx k t) = inNode t := rfl
theorem emp_emd : ∀ (f : Nat) (s : St) (k : Nat), Liv s → k < s.sl.length → Emd s (empF f s k)
  | 0, s, _, L, _ => Emd.none L
  | f + 1, s, k, L, hk => by
    rcases hf : (slAt s.sl k).c.non with _ | _
    · obtain ⟨f1, f2, -, -⟩ := L.full k hk hf
      obtain ⟨t, ht⟩ : ∃ t : Nat, (slAt s.sl k).c.th = (t : Int) := ⟨_, (Int.toNat_of_nonneg f1).symm⟩
      have hnum := cut_full hk hf
      have hnon : ∀ j, j < s.sl.length → (slAt s.sl j).c.non = true → (slAt (cutS s k).sl j).c.non = true := fun j hj hn => by rw [cut_non hk hj, hn, Bool.or_true]
      rcases hz : (rootZ s (slAt s.sl k).c.th || heldZ (cutS s k).sl (slAt s.sl k).c.th) with _ | _
      · rw [emp_gone hf hz]
        rw [ht, Bool.or_eq_false_iff] at hz
        have L2 := L.gone hk t ht hf hz.1 hz.2
        rw [ht, Int.toNat_natCast]
        have h1 : Emd s (goneT (cutS s k) t, 1) := ⟨L2, rfl, cut_sl s k, by rw [goneT, List.length_set, cut_th], hnum, hnon⟩
        refine h1.next (runE_emd (n := s.sl.length) (P := fun j => j < s.sl.length) (fun s2 j L2 hn hj => emp_emd f s2 j L2 (by rw [hn]; exact hj)) _ _ L2 (cut_sl s k) fun j hj => ?_)
        rw [cut_thAt, inNode_tx] at hj
        exact inNode_lt L (by rw [ht] at f2; simpa using f2) hj
      · rw [emp_kept hf hz]
        rw [ht] at hz
        exact ⟨L.cut hk t ht hf hz, rfl, cut_sl s k, cut_th s k, hnum, hnon⟩
    · rw [emp_none hf]
      exact Emd.none L
/-- a number that may be no slot -/
def eAt (s : St) (z : Int) : St × Nat := if 0 ≤ z ∧ z < s.sl.length then empF 96 s z.toNat else (s, 0)
def empAll (s : St) (l : List Int) : St × Nat := if sgood s = true then runE eAt l s else (s, 0)
theorem eAt_emd {s : St} {z : Int} (L : Liv s) : Emd s (eAt s z) := by
  unfold eAt
  by_cases h : 0 ≤ z ∧ z < s.sl.length
  · rw [if_pos h]
    exact emp_emd 96 s _ L (by omega)
  · rw [if_neg h]
    exact Emd.none L
theorem runA_emd (l : List Int) {s : St} (L : Liv s) : Emd s (runE eAt l s) := runE_emd (n := s.sl.length) (P := fun _ => True) (fun s z L _ _ => eAt_emd L) l s L rfl fun _ _ => trivial
def tslots (s : St) (k : Int) (op : Int) : List Int := if op = 6 then fbelow (upsOf s.sl) k else [k]
def tdo (s : St) (t : Int) (c : Cl) : Option St × Rep :=
  if (c.op = 5 ∨ c.op = 6) ∧ cgood c = true then
    (if (fcap s t c.a).2.2 = 0 then (some (empAll s (tslots s (fcap s t c.a).1 c.op)).1, ⟨0, 0, (empAll s (tslots s (fcap s t c.a).1 c.op)).2⟩) else (none, ⟨(fcap s t c.a).2.2, 0, 0⟩))
  else (none, ⟨1, 0, 0⟩)
end Go.Proofs.YtkpbfbmkolgmgaaGreat
