/-
  Plain facts: a superblock of which one word is another in just one of its four parts is none. No condition.
-/
import Derived.Test.YteadkcekoccmdaaSg
namespace Go.Proofs.Yteadkcekoccmdaa
open Go.RowKit

/-- the parts of a word -/
def pt (x : Int) (j : Nat) : Int := match j with
  | 0 => x % 65536
  | 1 => x / 65536 % 65536
  | 2 => x / 4294967296 % 65536
  | _ => x / 281474976710656
def Apart (x y : Int) (i : Nat) : Prop := x ≠ y ∧ i < 4 ∧ ∀ j, j < 4 → j ≠ i → pt x j = pt y j
theorem pt_all {x : Int} (h : Wd x) : x = pt x 0 + 65536 * pt x 1 + 4294967296 * pt x 2 + 281474976710656 * pt x 3 ∧ (0 ≤ pt x 0 ∧ pt x 0 ≤ 65535) ∧ (0 ≤ pt x 1 ∧ pt x 1 ≤ 65535) ∧ (0 ≤ pt x 2 ∧ pt x 2 ≤ 65535) ∧ (0 ≤ pt x 3 ∧ pt x 3 ≤ 65535) := by
  unfold Wd at h
  unfold pt
  simp only
  omega
theorem step_eq (p : Int × Int) (x : Int) : step p x = (res (-p.2 + pt x 0 - pt x 2), res (p.1 + pt x 1 - pt x 3)) := rfl
theorem res_ne {a b : Int} (h : a ≠ b) (h1 : a - b < 1000003) (h2 : b - a < 1000003) : res a ≠ res b := by unfold res; omega

theorem step_ne {x y : Int} {i : Nat} (p : Int × Int) (hx : Wd x) (hy : Wd y) (h : Apart x y i) : step p x ≠ step p y := by
  obtain ⟨hne, hi, hs⟩ := h
  obtain ⟨ex, ⟨a0, a1⟩, ⟨a2, a3⟩, ⟨a4, a5⟩, a6, a7⟩ := pt_all hx
  obtain ⟨ey, ⟨b0, b1⟩, ⟨b2, b3⟩, ⟨b4, b5⟩, b6, b7⟩ := pt_all hy
  have s0 := hs 0 (by omega)
  have s1 := hs 1 (by omega)
  have s2 := hs 2 (by omega)
  have s3 := hs 3 (by omega)
  rw [step_eq, step_eq]
  generalize pt x 0 = x0 at *
  generalize pt x 1 = x1 at *
  generalize pt x 2 = x2 at *
  generalize pt x 3 = x3 at *
  generalize pt y 0 = y0 at *
  generalize pt y 1 = y1 at *
  generalize pt y 2 = y2 at *
  generalize pt y 3 = y3 at *
  generalize p.1 = a
  generalize p.2 = b
  clear hs hx hy
  intro e
  injection e with e1 e2
  rcases (show i = 0 ∨ i = 1 ∨ i = 2 ∨ i = 3 by omega) with rfl | rfl | rfl | rfl
  · have g1 := s1 (by omega); have g2 := s2 (by omega); have g3 := s3 (by omega)
    exact res_ne (by omega) (by omega) (by omega) e1
  · have g0 := s0 (by omega); have g2 := s2 (by omega); have g3 := s3 (by omega)
    exact res_ne (by omega) (by omega) (by omega) e2
  · have g0 := s0 (by omega); have g1 := s1 (by omega); have g3 := s3 (by omega)
    exact res_ne (by omega) (by omega) (by omega) e1
  · have g0 := s0 (by omega); have g1 := s1 (by omega); have g2 := s2 (by omega)
    exact res_ne (by omega) (by omega) (by omega) e2

def InR (p : Int × Int) : Prop := (0 ≤ p.1 ∧ p.1 ≤ 1000002) ∧ (0 ≤ p.2 ∧ p.2 ≤ 1000002)
theorem step_in (p : Int × Int) (x : Int) : InR (step p x) := ⟨res_range _, res_range _⟩
theorem step_inj {p q : Int × Int} (x : Int) (hp : InR p) (hq : InR q) (h : p ≠ q) : step p x ≠ step q x := by
  obtain ⟨⟨a0, a1⟩, a2, a3⟩ := hp
  obtain ⟨⟨b0, b1⟩, b2, b3⟩ := hq
  obtain ⟨p1, p2⟩ := p
  obtain ⟨q1, q2⟩ := q
  simp only at a0 a1 a2 a3 b0 b1 b2 b3
  rw [step_eq, step_eq]
  intro e
  injection e with e1 e2
  simp only at e1 e2
  by_cases h1 : p1 = q1
  · by_cases h2 : p2 = q2
    · exact h (by rw [h1, h2])
    · exact res_ne (by omega) (by omega) (by omega) e1
  · exact res_ne (by omega) (by omega) (by omega) e2
theorem foldl_ne (l : List Int) : ∀ {p q : Int × Int}, InR p → InR q → p ≠ q → l.foldl step p ≠ l.foldl step q := by
  induction l with
  | nil => intro p q _ _ h; exact h
  | cons x r ih => intro p q hp hq h; exact ih (step_in p x) (step_in q x) (step_inj x hp hq h)
theorem spin_in (l : List Int) : InR (spin l) := spin_range l
theorem spin_apart {x y : Int} {i : Nat} (a b : List Int) (hx : Wd x) (hy : Wd y) (h : Apart x y i) : spin (a ++ x :: b) ≠ spin (a ++ y :: b) := by
  unfold spin
  rw [List.foldl_append, List.foldl_append, List.foldl_cons, List.foldl_cons]
  exact foldl_ne b (step_in _ _) (step_in _ _) (step_ne _ hx hy h)
theorem close_apart {x y : Int} {i : Nat} (a b : List Int) (hx : Wd x) (hy : Wd y) (h : Apart x y i) : close (a ++ x :: b) ≠ close (a ++ y :: b) := by
  have hs := spin_apart a b hx hy h
  obtain ⟨⟨a0, a1⟩, a2, a3⟩ := spin_in (a ++ x :: b)
  obtain ⟨⟨b0, b1⟩, b2, b3⟩ := spin_in (a ++ y :: b)
  unfold close
  generalize spin (a ++ x :: b) = p at *
  generalize spin (a ++ y :: b) = q at *
  obtain ⟨p1, p2⟩ := p
  obtain ⟨q1, q2⟩ := q
  simp only at a0 a1 a2 a3 b0 b1 b2 b3 ⊢
  intro e
  exact hs (by rw [show p1 = q1 by omega, show p2 = q2 by omega])

/-- one word of it is another in one part: it is none -/
theorem turned {s : Sp} {k i : Nat} {x y : Int} (h : s.g.ok = true) (hb : 0 ≤ s.b ∧ s.b < 18446744073709551616) (hx : s.full[k]? = some x) (hy : Wd y) (ha : Apart x y i) : got (s.full.set k y) = false := by
  have hne := ha.1
  have hxw := full_words h hb x (List.mem_of_getElem? hx)
  unfold got
  refine decide_eq_false ?_
  rintro ⟨-, e⟩
  unfold Sp.put at e
  by_cases ho : (Sp.of (s.full.set k y)).g.ok = true
  · rw [if_pos ho] at e
    match k, hx with
    | 0, hx =>
      injection hx with hx
      injection e with e1
      exact hne (by rw [← hx, e1])
    | 1, hx =>
      injection hx with hx
      have e7 : close s.front = close (Sp.of (s.full.set 1 y)).front := by
        have := congrArg (fun l => l.getD 7 0) e
        exact this
      have ef : (Sp.of (s.full.set 1 y)).front = [8243106252149764145, y, s.g.s, s.g.k, s.b, 0, 0] := by
        have := congrArg (fun l => l.take 7) e
        exact this.symm
      rw [ef] at e7
      subst hx
      exact close_apart [8243106252149764145] [s.g.s, s.g.k, s.b, 0, 0] hxw hy ha e7
    | 2, hx =>
      injection hx with hx
      have e7 : close s.front = close (Sp.of (s.full.set 2 y)).front := congrArg (fun l => l.getD 7 0) e
      have ef : (Sp.of (s.full.set 2 y)).front = [8243106252149764145, s.g.t, y, s.g.k, s.b, 0, 0] := (congrArg (fun l => l.take 7) e).symm
      rw [ef] at e7
      subst hx
      exact close_apart [8243106252149764145, s.g.t] [s.g.k, s.b, 0, 0] hxw hy ha e7
    | 3, hx =>
      injection hx with hx
      have e7 : close s.front = close (Sp.of (s.full.set 3 y)).front := congrArg (fun l => l.getD 7 0) e
      have ef : (Sp.of (s.full.set 3 y)).front = [8243106252149764145, s.g.t, s.g.s, y, s.b, 0, 0] := (congrArg (fun l => l.take 7) e).symm
      rw [ef] at e7
      subst hx
      exact close_apart [8243106252149764145, s.g.t, s.g.s] [s.b, 0, 0] hxw hy ha e7
    | 4, hx =>
      injection hx with hx
      have e7 : close s.front = close (Sp.of (s.full.set 4 y)).front := congrArg (fun l => l.getD 7 0) e
      have ef : (Sp.of (s.full.set 4 y)).front = [8243106252149764145, s.g.t, s.g.s, s.g.k, y, 0, 0] := (congrArg (fun l => l.take 7) e).symm
      rw [ef] at e7
      subst hx
      exact close_apart [8243106252149764145, s.g.t, s.g.s, s.g.k] [0, 0] hxw hy ha e7
    | 5, hx =>
      injection hx with hx
      exact hne (by rw [← hx]; exact (congrArg (fun l => l.getD 5 0) e).symm)
    | 6, hx =>
      injection hx with hx
      exact hne (by rw [← hx]; exact (congrArg (fun l => l.getD 6 0) e).symm)
    | 7, hx =>
      injection hx with hx
      have hof : Sp.of (s.full.set 7 y) = s := of_full h
      rw [hof] at e
      exact hne (by rw [← hx]; exact (congrArg (fun l => l.getD 7 0) e).symm)
    | k + 8, hx => exact absurd hx (by simp [Sp.full])
  · rw [if_neg ho] at e
    exact absurd (congrArg List.length e) (by simp [Sp.full])
end Go.Proofs.Yteadkcekoccmdaa
