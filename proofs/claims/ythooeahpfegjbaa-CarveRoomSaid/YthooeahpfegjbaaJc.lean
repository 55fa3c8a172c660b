/-
  States as plain data: what has a slot, who holds a thing, which may be. No condition.
-/
import Derived.Test.YthooeahpfegjbaaJb
namespace Go.Proofs.Ythooeahpfegjbaa

/-- what is in a slot, and what it came of -/
structure Sl where
  c : Cp
  up : Int
def Sl.zero : Sl := ⟨.none, 0⟩
/-- a state: how much there is, its slots, its things -/
structure St where
  g : Gd
  sl : List Sl
  th : List Tng
def slAt (l : List Sl) (i : Nat) : Sl := l.getD i .zero
def thAt (l : List Tng) (i : Nat) : Tng := l.getD i .zero
theorem slAt_get {l : List Sl} {i : Nat} (h : i < l.length) : l[i]? = some (slAt l i) := by rw [slAt, List.getD_eq_getElem?_getD, List.getElem?_eq_getElem h]; rfl
theorem thAt_get {l : List Tng} {i : Nat} (h : i < l.length) : l[i]? = some (thAt l i) := by rw [thAt, List.getD_eq_getElem?_getD, List.getElem?_eq_getElem h]; rfl
theorem slAt_at {l : List Sl} {i : Nat} {x : Sl} (h : l[i]? = some x) : slAt l i = x := by rw [slAt, List.getD_eq_getElem?_getD, h]; rfl
theorem thAt_at {l : List Tng} {i : Nat} {x : Tng} (h : l[i]? = some x) : thAt l i = x := by rw [thAt, List.getD_eq_getElem?_getD, h]; rfl
theorem thAt_out {l : List Tng} {i : Nat} (h : l.length ≤ i) : thAt l i = .zero := by rw [thAt, List.getD_eq_getElem?_getD, List.getElem?_eq_none h]; rfl
theorem slAt_out {l : List Sl} {i : Nat} (h : l.length ≤ i) : slAt l i = .zero := by rw [slAt, List.getD_eq_getElem?_getD, List.getElem?_eq_none h]; rfl
theorem slAt_range {n : Nat} (f : Nat → Sl) {i : Nat} (h : i < n) : slAt ((List.range n).map f) i = f i := slAt_at (by simp [h])
theorem thAt_range {n : Nat} (f : Nat → Tng) {i : Nat} (h : i < n) : thAt ((List.range n).map f) i = f i := thAt_at (by simp [h])

/-! ### one's own, alike -/
def Gd.eq (a b : Gd) : Bool := a.t == b.t && (a.s == b.s && a.k == b.k)
theorem Gd.eq_iff {a b : Gd} : a.eq b = true ↔ a = b := by
  obtain ⟨⟩ := a
  obtain ⟨⟩ := b
  simp only [Gd.eq, Bool.and_eq_true, beq_iff_eq, Gd.mk.injEq]
theorem Cp.eq_iff {a b : Cp} : a.eq b = true ↔ a = b := by
  obtain ⟨⟩ := a
  obtain ⟨⟩ := b
  simp only [Cp.eq, Bool.and_eq_true, beq_iff_eq, Cp.mk.injEq]
def Sl.eq (a b : Sl) : Bool := a.c.eq b.c && a.up == b.up
theorem Sl.eq_iff {a b : Sl} : a.eq b = true ↔ a = b := by
  obtain ⟨⟩ := a
  obtain ⟨⟩ := b
  simp only [Sl.eq, Bool.and_eq_true, beq_iff_eq, Cp.eq_iff, Sl.mk.injEq]
def alls {α : Type} (e : α → α → Bool) : List α → List α → Bool
  | [], [] => true
  | a :: l, b :: m => e a b && alls e l m
  | _, _ => false
theorem alls_iff {α : Type} {e : α → α → Bool} (he : ∀ {a b}, e a b = true ↔ a = b) : ∀ {l m : List α}, alls e l m = true ↔ l = m
  | [], [] => by simp [alls]
  | [], b :: m => by simp [alls]
  | a :: l, [] => by simp [alls]
  | a :: l, b :: m => by rw [alls, Bool.and_eq_true, he, alls_iff he, List.cons.injEq]
def St.same (a b : St) : Bool := a.g.eq b.g && (alls Sl.eq a.sl b.sl && alls Tng.eq a.th b.th)
theorem St.same_iff {a b : St} : a.same b = true ↔ a = b := by
  obtain ⟨⟩ := a
  obtain ⟨⟩ := b
  simp only [St.same, Bool.and_eq_true, Gd.eq_iff, alls_iff Sl.eq_iff, alls_iff Tng.eq_iff, St.mk.injEq]

/-! ### who has a slot, who holds a thing -/
def upOf (x : Sl) : Int := if x.c.non = true then -2 else x.up
def upsOf (l : List Sl) : List Int := l.map upOf
theorem upsOf_length (l : List Sl) : (upsOf l).length = l.length := List.length_map ..
theorem fu_ups {l : List Sl} {i : Nat} (h : i < l.length) : fu (upsOf l) i = upOf (slAt l i) := fu_at (by rw [upsOf, List.getElem?_map, slAt_get h]; rfl)
def Tng.hasS (t : Tng) (k : Int) : Bool := t.ty == 2 && (decide (t.base ≤ k) && decide (k < t.base + tw2 t.bits))
theorem Tng.hasS_iff {t : Tng} {k : Int} : t.hasS k = true ↔ t.ty = 2 ∧ t.base ≤ k ∧ k < t.base + tw2 t.bits := by simp [Tng.hasS]
def ownerN (th : List Tng) (k : Int) : Option Nat := th.findIdx? fun t => t.hasS k
def optI : Option Nat → Int
  | some i => i
  | none => -1
theorem ownerN_some {th : List Tng} {k : Int} {i : Nat} : ownerN th k = some i ↔ i < th.length ∧ (thAt th i).hasS k = true ∧ ∀ j, j < i → (thAt th j).hasS k = false := by
  rw [ownerN, List.findIdx?_eq_some_iff_getElem]
  constructor
  · rintro ⟨h, h1, h2⟩
    refine ⟨h, by rwa [thAt_at (List.getElem?_eq_getElem h)], fun j hj => ?_⟩
    have := h2 j hj
    rw [thAt_at (List.getElem?_eq_getElem (Nat.lt_trans hj h))]
    simpa using this
  · rintro ⟨h, h1, h2⟩
    refine ⟨h, by rwa [thAt_at (List.getElem?_eq_getElem h)] at h1, fun j hj => ?_⟩
    have := h2 j hj
    rw [thAt_at (List.getElem?_eq_getElem (Nat.lt_trans hj h))] at this
    simpa using this
theorem ownerN_none {th : List Tng} {k : Int} : ownerN th k = none ↔ ∀ j, j < th.length → (thAt th j).hasS k = false := by
  rw [ownerN, List.findIdx?_eq_none_iff]
  constructor
  · exact fun h j hj => h _ (List.mem_of_getElem? (thAt_get hj))
  · intro h x hx
    obtain ⟨j, hj, rfl⟩ := List.getElem_of_mem hx
    have := h j hj
    rwa [thAt_at (List.getElem?_eq_getElem hj)] at this
theorem ownerN_lt {th : List Tng} {k : Int} {i : Nat} (h : ownerN th k = some i) : i < th.length := (ownerN_some.1 h).1
def holds (t : Int) (x : Sl) : Bool := !decide (x.c.ty = 0) && decide (x.c.th = t)
def holdN (sl : List Sl) (t : Int) : List Nat := (List.range sl.length).filter fun i => holds t (slAt sl i)
theorem mem_holdN {sl : List Sl} {t : Int} {i : Nat} : i ∈ holdN sl t ↔ i < sl.length ∧ (slAt sl i).c.ty ≠ 0 ∧ (slAt sl i).c.th = t := by
  simp [holdN, holds]
def freeN (th : List Tng) : Option Nat := th.findIdx? fun t => decide (t.ty = 0)
theorem freeN_some {th : List Tng} {i : Nat} : freeN th = some i ↔ i < th.length ∧ (thAt th i).ty = 0 ∧ ∀ j, j < i → (thAt th j).ty ≠ 0 := by
  rw [freeN, List.findIdx?_eq_some_iff_getElem]
  constructor
  · rintro ⟨h, h1, h2⟩
    refine ⟨h, by rw [thAt_at (List.getElem?_eq_getElem h)]; simpa using h1, fun j hj => ?_⟩
    have := h2 j hj
    rw [thAt_at (List.getElem?_eq_getElem (Nat.lt_trans hj h))]
    simpa using this
  · rintro ⟨h, h1, h2⟩
    rw [thAt_at (List.getElem?_eq_getElem h)] at h1
    refine ⟨h, by simpa using h1, fun j hj => ?_⟩
    have := h2 j hj
    rw [thAt_at (List.getElem?_eq_getElem (Nat.lt_trans hj h))] at this
    simpa using this
theorem freeN_none {th : List Tng} : freeN th = none ↔ ∀ j, j < th.length → (thAt th j).ty ≠ 0 := by
  rw [freeN, List.findIdx?_eq_none_iff]
  constructor
  · exact fun h j hj => by simpa using h _ (List.mem_of_getElem? (thAt_get hj))
  · intro h x hx
    obtain ⟨j, hj, rfl⟩ := List.getElem_of_mem hx
    have := h j hj
    rw [thAt_at (List.getElem?_eq_getElem hj)] at this
    simpa using this
def ownd (th : List Tng) (k : Nat) : Bool := (ownerN th k).isSome
def gapN (s : St) (bits : Int) : Option Nat := if inr3 bits 1 4 = true then gapF (ownd s.th) s.sl.length (tw2 bits).toNat else none

/-! ### Nodes in Nodes -/
def edgeOf (th : List Tng) (sl : List Sl) (i : Nat) : Option (Nat × Nat) := if (slAt sl i).c.ty = 2 then (ownerN th i).map fun o => (o, (slAt sl i).c.th.toNat) else none
def edgesN (th : List Tng) (sl : List Sl) : List (Nat × Nat) := (List.range sl.length).filterMap (edgeOf th sl)
theorem mem_edges {th : List Tng} {sl : List Sl} {e : Nat × Nat} : e ∈ edgesN th sl ↔ ∃ i, i < sl.length ∧ (slAt sl i).c.ty = 2 ∧ ownerN th i = some e.1 ∧ (slAt sl i).c.th.toNat = e.2 := by
  simp only [edgesN, List.mem_filterMap, List.mem_range, edgeOf]
  constructor
  · rintro ⟨i, h, h1⟩
    split at h1
    · rename_i h2
      rw [Option.map_eq_some_iff] at h1
      obtain ⟨o, h3, h4⟩ := h1
      exact ⟨i, h, h2, by rw [h3, ← h4], by rw [← h4]⟩
    · cases h1
  · rintro ⟨i, h, h1, h2, h3⟩
    refine ⟨i, h, ?_⟩
    rw [if_pos h1, h2, Option.map_some, h3]
def underN (s : St) (a : Nat) : Nat → Bool := krounds (edgesN s.th s.sl) s.th.length (kstart a)
def ringN (s : St) (a : Nat) : Bool := (edgesN s.th s.sl).any fun e => e.1 == a && underN s e.2 a

/-! ### which may be -/
def Tng.meets (t u : Tng) : Bool := t.ty == 2 && (u.ty == 2 && (decide (t.base < u.base + tw2 u.bits) && decide (u.base < t.base + tw2 t.bits)))
def rootT (t : Int) : Tng := ⟨2, 3, 8 * t, 0, 0, 0, 0, false, 0, 0, 0, 0, 0⟩
def St.k1 (s : St) : Bool := s.g.ok && (decide ((s.sl.length : Int) = s.g.s) && decide ((s.th.length : Int) = s.g.k))
def St.fits2 (s : St) (t : Tng) : Bool := !(t.ty == 2 && decide (s.g.s < t.base + tw2 t.bits))
def St.from2 (s : St) (t : Tng) : Bool := !(decide (0 < t.frm) && (decide (s.g.s < t.frm) || (slAt s.sl (t.frm - 1).toNat).c.non))
def St.k2 (s : St) (i : Nat) : Bool := (thAt s.th i).good && (s.fits2 (thAt s.th i) && (((List.range i).all fun k => !(thAt s.th i).meets (thAt s.th k)) && s.from2 (thAt s.th i)))
def St.k3 (s : St) (t : Nat) : Bool := (thAt s.th (2 + t)).eq (rootT t)
def St.thing4 (s : St) (c : Cp) : Bool := decide (c.th < s.th.length) && (thAt s.th c.th.toNat).ty == c.ty
def St.k4 (s : St) (i : Nat) : Bool := (slAt s.sl i).c.good && (if (slAt s.sl i).c.ty = 0 then (slAt s.sl i).up == -1 else s.thing4 (slAt s.sl i).c && (ownerN s.th i).isSome)
def St.k5 (s : St) : Bool := fgood (upsOf s.sl)
def cameOk (c p : Cp) : Bool := c.less p || (p.ty == 1 && !(p.th == c.th))
def St.k6 (s : St) (i : Nat) : Bool := decide ((slAt s.sl i).c.ty = 0) || (decide (-1 ≤ (slAt s.sl i).up) && (decide ((slAt s.sl i).up < 0) || cameOk (slAt s.sl i).c (slAt s.sl (slAt s.sl i).up.toNat).c))
def St.root (s : St) (i : Nat) : Bool := decide (2 ≤ i) && decide ((i : Int) < 2 + s.g.t)
def St.k7 (s : St) (i : Nat) : Bool := !(!decide ((thAt s.th i).ty = 0) && (!s.root i && (holdN s.sl i).isEmpty)) && !(decide ((thAt s.th i).ty = 2) && ringN s i)
def sgood (s : St) : Bool := s.k1 && ((List.range s.th.length).all s.k2 && ((List.range s.g.t.toNat).all s.k3 && ((List.range s.sl.length).all s.k4 && (s.k5 && ((List.range s.sl.length).all s.k6 && (List.range s.th.length).all s.k7)))))
/-- the same, to work with -/
structure Gst (s : St) : Prop where
  k1 : s.k1 = true
  k2 : ∀ i, i < s.th.length → s.k2 i = true
  k3 : ∀ t : Nat, (t : Int) < s.g.t → s.k3 t = true
  k4 : ∀ i, i < s.sl.length → s.k4 i = true
  k5 : s.k5 = true
  k6 : ∀ i, i < s.sl.length → s.k6 i = true
  k7 : ∀ i, i < s.th.length → s.k7 i = true
theorem sgood_iff {s : St} : sgood s = true ↔ Gst s := by
  simp only [sgood, Bool.and_eq_true, List.all_eq_true, List.mem_range]
  constructor
  · rintro ⟨h1, h2, h3, h4, h5, h6, h7⟩
    exact ⟨h1, h2, fun t h => h3 t (by omega), h4, h5, h6, h7⟩
  · rintro ⟨h1, h2, h3, h4, h5, h6, h7⟩
    exact ⟨h1, h2, fun t h => h3 t (by omega), h4, h5, h6, h7⟩
theorem sbad1 {s : St} (h : s.k1 = false) : sgood s = false := Bool.eq_false_iff.2 fun e => by rw [(sgood_iff.1 e).k1] at h; cases h
theorem sbad2 {s : St} {i : Nat} (hi : i < s.th.length) (h : s.k2 i = false) : sgood s = false := Bool.eq_false_iff.2 fun e => by rw [(sgood_iff.1 e).k2 i hi] at h; cases h
theorem sbad3 {s : St} {t : Nat} (hi : (t : Int) < s.g.t) (h : s.k3 t = false) : sgood s = false := Bool.eq_false_iff.2 fun e => by rw [(sgood_iff.1 e).k3 t hi] at h; cases h
theorem sbad4 {s : St} {i : Nat} (hi : i < s.sl.length) (h : s.k4 i = false) : sgood s = false := Bool.eq_false_iff.2 fun e => by rw [(sgood_iff.1 e).k4 i hi] at h; cases h
theorem sbad5 {s : St} (h : s.k5 = false) : sgood s = false := Bool.eq_false_iff.2 fun e => by rw [(sgood_iff.1 e).k5] at h; cases h
theorem sbad6 {s : St} {i : Nat} (hi : i < s.sl.length) (h : s.k6 i = false) : sgood s = false := Bool.eq_false_iff.2 fun e => by rw [(sgood_iff.1 e).k6 i hi] at h; cases h
theorem sbad7 {s : St} {i : Nat} (hi : i < s.th.length) (h : s.k7 i = false) : sgood s = false := Bool.eq_false_iff.2 fun e => by rw [(sgood_iff.1 e).k7 i hi] at h; cases h

/-! ### what is told of one -/
def sowner (s : St) (k : Int) : Option Nat := if sgood s = true then ownerN s.th k else none
def sfree (s : St) : Option Nat := if sgood s = true then freeN s.th else none
def sgap (s : St) (bits : Int) : Option Nat := if sgood s = true then gapN s bits else none
def shold (s : St) (t : Int) : List Nat := if sgood s = true then holdN s.sl t else []
def insideN (s : St) (node slot : Int) : Bool := decide (0 ≤ node) && (decide (node < s.th.length) && (decide ((thAt s.th node.toNat).ty = 2) && match ownerN s.th slot with | some o => underN s node.toNat o | none => false))
def sinside (s : St) (node slot : Int) : Bool := sgood s && insideN s node slot

/-! ### the first one -/
def newT (t room : Int) (i : Nat) : Tng := if i = 0 then ⟨1, 0, 0, room, 0, 0, 0, false, 0, 0, 0, 0, 0⟩ else if i = 1 then Tng.of 3 else if (i : Int) < 2 + t then rootT ((i : Int) - 2) else .zero
def newS (t : Int) (i : Nat) : Sl := if i = 0 then ⟨⟨1, 0, 7, 0⟩, -1⟩ else if i % 8 = 1 ∧ ((i / 8 : Nat) : Int) < t then ⟨⟨3, 1, 7, 0⟩, if i = 1 then -1 else 1⟩ else ⟨.none, -1⟩
def snewS (g : Gd) (room : Int) : St := ⟨g, (List.range g.s.toNat).map (newS g.t), (List.range g.k.toNat).map (newT g.t room)⟩
def snew (g : Gd) (room : Int) : Option St := if g.ok = true ∧ inr3 room 1 4096 = true then some (snewS g room) else none
end Go.Proofs.Ythooeahpfegjbaa
