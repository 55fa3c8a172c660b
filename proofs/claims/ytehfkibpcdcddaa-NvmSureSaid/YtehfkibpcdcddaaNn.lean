/-
  What a memory without a fuse does under stores, flushes, a fence, a fall: plain facts. No condition.
-/
import Derived.Test.YtehfkibpcdcddaaNl
namespace Go.Proofs.Ytehfkibpcdcddaa
open Go.RowKit

/-- on, without a fuse, four lines, at most c counted -/
structure Calm (m : Mm) (c : Int) : Prop where
  off : m.off = false
  calls : m.calls = 0
  four : m.rows.length = 4
  n0 : 0 ≤ m.n
  nc : m.n ≤ c
theorem Calm.begin {m : Mm} {c : Int} (h : Calm m c) (t : Bool) : m.begin t = if t = true then (0, { m with n := m.n + 1 }) else (1, m) := by
  have hm : m.may t = if t = true then 0 else 1 := by unfold Mm.may; rw [if_neg (by rw [h.off]; simp)]
  unfold Mm.begin
  cases t
  · rw [hm]; simp
  · rw [hm]; simp [h.calls]
theorem Calm.store {m : Mm} {c : Int} (h : Calm m c) (i v : Int) : Calm (m.store i v).2 (c + 1) ∧
    ((m.store i v).2.rows = m.rows ∨ ∃ (k j : Nat) (r : Ln), m.rows[k]? = some r ∧ j < 8 ∧ (m.store i v).2.rows = m.rows.set k { r with N := r.N.set j v, out := true, sent := false }) := by
  have h1 := h.n0
  have h2 := h.nc
  unfold Mm.store
  rw [h.begin]
  cases hw : m.word i
  · simp only [Bool.false_eq_true, if_false]
    rw [if_neg (by omega)]
    exact ⟨⟨h.off, h.calls, h.four, h.n0, by have := h.nc; simp only; omega⟩, .inl rfl⟩
  · simp only [if_true]
    obtain ⟨x0, x1⟩ := inb_yes hw
    obtain ⟨a, rfl⟩ := Int.eq_ofNat_of_zero_le x0
    have ha : a / 8 < m.rows.length := by omega
    refine ⟨⟨h.off, h.calls, by unfold Mm.put; simp only [List.length_set]; exact h.four, by unfold Mm.put; simp only; omega, by unfold Mm.put; simp only; omega⟩, .inr ⟨a / 8, a % 8, _, Mm.get_some ha, by omega, ?_⟩⟩
    unfold Mm.put
    simp only [Int.toNat_natCast]
    congr 1
    show (m.get (a / 8)).store _ v = _
    unfold Ln.store
    rw [if_pos (by unfold inl; simp; omega), Int.toNat_natCast]
theorem Calm.flush {m : Mm} {c : Int} (h : Calm m c) (i : Nat) (r : Ln) (hr : m.rows[i]? = some r) : m.flush i = (0, { m with n := m.n + 1, rows := m.rows.set i r.flush }) := by
  have hi : i < m.rows.length := (List.getElem?_eq_some_iff.1 hr).1
  have hl : m.line (i : Int) = true := by unfold Mm.line inb; simp; omega
  have hg : m.get i = r := by unfold Mm.get; rw [hr]; rfl
  unfold Mm.flush
  rw [h.begin, hl]
  simp only [if_true]
  unfold Mm.put
  simp only [Int.toNat_natCast]
  show (0, _) = (0, _)
  have : ({ m with n := m.n + 1 } : Mm).get i = r := hg
  rw [this]
theorem Calm.fence {m : Mm} {c : Int} (h : Calm m c) : m.fence = (0, { m with n := m.n + 1, rows := m.rows.mapIdx fun _ r => r.fence }) := by
  unfold Mm.fence
  rw [h.begin]
  simp only [if_true]
  rfl

/-- what is not out lasts as it is newest -/
def G1 (m : Mm) : Prop := ∀ (j : Nat) (r : Ln), m.rows[j]? = some r → r.out = false → r.L = r.N
theorem g1_fresh : G1 (fresh 4) := fun j r hr _ => by
  unfold fresh at hr
  rw [List.getElem?_replicate] at hr
  split at hr
  · injection hr with hr; rw [← hr]; rfl
  · cases hr
theorem G1.store {m : Mm} {c : Int} (g : G1 m) (h : Calm m c) (i v : Int) : G1 (m.store i v).2 := by
  rcases (h.store i v).2 with e | ⟨k, j, r, hr, _, e⟩
  · intro q s hs; rw [e] at hs; exact g q s hs
  · intro q s hs ho
    rw [e] at hs
    by_cases e2 : k = q
    · subst e2
      rw [List.getElem?_set_self (List.getElem?_eq_some_iff.1 hr).1] at hs
      injection hs with hs
      rw [← hs] at ho
      cases ho
    · rw [List.getElem?_set_ne e2] at hs
      exact g q s hs ho

/-- flushed and fenced: nothing is out, all lasts -/
def Still (l : List Ln) : Prop := ∀ (j : Nat) (r : Ln), l[j]? = some r → r.out = false ∧ r.L = r.N
theorem still_of {m : Mm} (g : G1 m) : Still ((m.rows.mapIdx fun _ r => r.flush).mapIdx fun _ r => r.fence) := fun j r hr => by
  rw [List.getElem?_mapIdx, List.getElem?_mapIdx] at hr
  cases hq : m.rows[j]? with
  | none => rw [hq] at hr; cases hr
  | some s =>
    rw [hq] at hr
    simp only [Option.map_some, Option.some.injEq] at hr
    rw [← hr]
    unfold Ln.fence Ln.flush
    cases ho : s.out
    · simp only [Bool.and_false, Bool.false_eq_true, if_false]
      exact ⟨trivial, g j s hq ho⟩
    · simp only [Bool.true_or, Bool.and_self, if_true]
      exact ⟨rfl, rfl⟩

/-- stores behind that: what lasts is as it was -/
def G2 (R : List Ln) (m : Mm) : Prop := m.rows.length = R.length ∧ ∀ (j : Nat) (r s : Ln), m.rows[j]? = some r → R[j]? = some s → r.L = s.N ∧ (r.out = false → r.N = s.N)
theorem g2_still {m : Mm} (h : Still m.rows) : G2 m.rows m := ⟨rfl, fun j r s hr hs => by
  rw [hr] at hs; injection hs with hs; subst hs
  exact ⟨(h j r hr).2, fun _ => rfl⟩⟩
theorem G2.store {R : List Ln} {m : Mm} {c : Int} (g : G2 R m) (h : Calm m c) (i v : Int) : G2 R (m.store i v).2 := by
  rcases (h.store i v).2 with e | ⟨k, j, r, hr, _, e⟩
  · exact ⟨by rw [e]; exact g.1, fun q a b ha hb => by rw [e] at ha; exact g.2 q a b ha hb⟩
  · refine ⟨by rw [e, List.length_set]; exact g.1, fun q a b ha hb => ?_⟩
    rw [e] at ha
    by_cases e2 : k = q
    · subst e2
      rw [List.getElem?_set_self (List.getElem?_eq_some_iff.1 hr).1] at ha
      injection ha with ha
      rw [← ha]
      exact ⟨(g.2 k r b hr hb).1, fun hf => by cases hf⟩
    · rw [List.getElem?_set_ne e2] at ha
      exact g.2 q a b ha hb

theorem wordsOf_get {l : List Ln} (h : ∀ r ∈ l, r.ok) : ∀ (k : Nat) (r : Ln) (j : Nat), l[k]? = some r → j < 8 → (wordsOf l)[k * 8 + j]? = r.N[j]? := by
  unfold wordsOf
  induction l with
  | nil => intro k r j hk; simp at hk
  | cons a t ih =>
    intro k r j hk hj
    have ha : a.N.length = 8 := (h a (by simp)).2
    cases k with
    | zero =>
      simp at hk
      subst hk
      rw [List.flatMap_cons, List.getElem?_append_left (by omega), show 0 * 8 + j = j by omega]
    | succ k =>
      simp at hk
      rw [List.flatMap_cons, List.getElem?_append_right (by omega), ha, show (k + 1) * 8 + j - 8 = k * 8 + j by omega]
      exact ih (fun x hx => h x (by simp [hx])) k r j hk hj

/-- behind a fall each word is the newest or the old one -/
theorem sure_words {R : List Ln} {m : Mm} (hR : ∀ r ∈ R, r.ok) (hm : ∀ r ∈ m.rows, r.ok) (g : G2 R m) (ho : m.off = false) (l : List Int) (r k : Nat) (hr : r < R.length) (h1 : 8 * r ≤ k) (h2 : k < 8 * r + 8) :
    (decide ((r : Int) ∈ l) = true → (m.crash l).words[k]? = m.words[k]?) ∧ (decide ((r : Int) ∈ l) = false → (m.crash l).words[k]? = (wordsOf R)[k]?) := by
  obtain ⟨s, hs⟩ : ∃ s, R[r]? = some s := ⟨_, List.getElem?_eq_getElem hr⟩
  obtain ⟨a, ha⟩ : ∃ a, m.rows[r]? = some a := ⟨_, List.getElem?_eq_getElem (by rw [g.1]; exact hr)⟩
  have hcr : (m.crash l).rows = m.rows.mapIdx fun i x => x.fall (decide ((i : Int) ∈ l)) := by
    unfold Mm.crash
    rw [if_neg (by rw [ho]; simp)]
    rfl
  have hc : (m.crash l).rows[r]? = some (a.fall (decide ((r : Int) ∈ l))) := by rw [hcr, List.getElem?_mapIdx, ha]; rfl
  have hok : ∀ x ∈ (m.crash l).rows, x.ok := fun x hx => by
    rw [hcr] at hx
    obtain ⟨i, hi, rfl⟩ := List.getElem_of_mem hx
    rw [List.getElem_mapIdx]
    exact Ln.fall_ok (hm _ (List.getElem_mem _)) _
  obtain ⟨j, hj⟩ : ∃ j, k = r * 8 + j := ⟨k - r * 8, by omega⟩
  have hj8 : j < 8 := by omega
  have e1 : (m.crash l).words[k]? = (a.fall (decide ((r : Int) ∈ l))).N[j]? := by rw [hj]; exact wordsOf_get hok r _ j hc hj8
  have e2 : m.words[k]? = a.N[j]? := by rw [hj]; exact wordsOf_get hm r _ j ha hj8
  have e3 : (wordsOf R)[k]? = s.N[j]? := by rw [hj]; exact wordsOf_get hR r _ j hs hj8
  rw [e1, e2, e3]
  obtain ⟨q1, q2⟩ := g.2 r a s ha hs
  constructor
  · intro hd
    rw [hd]
    unfold Ln.fall settled
    cases hao : a.out
    · rw [if_neg (by simp)]
    · rw [if_pos rfl]; simp
  · intro hd
    rw [hd]
    unfold Ln.fall settled
    cases hao : a.out
    · rw [if_neg (by simp), q2 hao]
    · rw [if_pos rfl]; simp [q1]
end Go.Proofs.Ytehfkibpcdcddaa
