/-
  Products of whole complex numbers in doubles: how near they are to the exact ones, and when they are exact.
-/
import Derived.Test.YteadkcekoccmdaaFlo
namespace Go.Proofs.Yteadkcekoccmdaa.Flo
open Ieee

theorem sgn_prod (a c : Int) : sgn (decide (a < 0) ^^ decide (c < 0)) (a.natAbs * c.natAbs) = a * c := by
  have ha := sgn_natAbs a
  have hc := sgn_natAbs c
  have h : ∀ (s t : Bool) (m n : Nat), sgn (s ^^ t) (m * n) = sgn s m * sgn t n := by
    intro s t m n
    cases s <;> cases t <;> simp [sgn, Int.natCast_mul, Int.neg_mul, Int.mul_neg]
  rw [h, ha, hc]

theorem sgn_near (s : Bool) (r k d : Nat) (h1 : r ≤ k + d) (h2 : k ≤ r + d) : sgn s r ≤ sgn s k + d ∧ sgn s k ≤ sgn s r + d := by
  cases s <;> simp [sgn] <;> omega

/-- a word that is a whole number 'R' (a nought may have a sign) -/
def Is (x : Nat) (R : Int) : Prop := x < 2 ^ 64 ∧ ∃ s r, Val x s r ∧ sgn s r = R

theorem is_F {n : Int} (h : n.natAbs < 2 ^ 53) : Is (F n) n := ⟨F_lt n, _, _, val_F n h, sgn_natAbs n⟩

theorem is_N (s : Bool) (k : Nat) (h : k < 2 ^ 63) : ∃ R, Is (N s k) R ∧ R ≤ sgn s k + 1024 ∧ sgn s k ≤ R + 1024 ∧ (k < 2 ^ 53 → R = sgn s k) := by
  obtain ⟨r, h1, h2, h3, h4⟩ := val_N s k h
  have := sgn_near s r k 1024 h2 h3
  exact ⟨sgn s r, ⟨N_lt s k, s, r, h1, rfl⟩, this.1, this.2, fun hk => by rw [h4 hk]⟩

theorem prod_is (a c : Int) (ha : a.natAbs < 2 ^ 53) (hc : c.natAbs < 2 ^ 53) (h : (a * c).natAbs < 2 ^ 62) :
    ∃ x R, D.mul (F a) (F c) = some x ∧ Is x R ∧ R ≤ a * c + 1024 ∧ a * c ≤ R + 1024 ∧ ((a * c).natAbs < 2 ^ 53 → R = a * c) := by
  have e := mul_val (val_F a ha) (val_F c hc)
  rw [Int.natAbs_mul] at h
  obtain ⟨R, h1, h2, h3, h4⟩ := is_N (decide (a < 0) ^^ decide (c < 0)) (a.natAbs * c.natAbs) (by omega)
  rw [sgn_prod] at h2 h3 h4
  exact ⟨_, R, e, h1, h2, h3, fun hk => h4 (by rw [Int.natAbs_mul] at hk; exact hk)⟩

theorem sgn_if (T : Int) (b : Bool) : sgn (if T = 0 then b else decide (T < 0)) T.natAbs = T := by
  split
  · rename_i h; rw [h]; cases b <;> rfl
  · exact sgn_natAbs T

theorem sub_is {x y : Nat} {R Q : Int} (hx : Is x R) (hy : Is y Q) (h : (R - Q).natAbs < 2 ^ 63) :
    ∃ z T, D.sub x y = some z ∧ Is z T ∧ T ≤ R - Q + 1024 ∧ R - Q ≤ T + 1024 ∧ ((R - Q).natAbs < 2 ^ 53 → T = R - Q) := by
  obtain ⟨_, s, r, hx, rfl⟩ := hx
  obtain ⟨_, t, q, hy, rfl⟩ := hy
  have e := sub_val hx hy
  obtain ⟨T, h1, h2, h3, h4⟩ := is_N (if sgn s r - sgn t q = 0 then s && !t else decide (sgn s r - sgn t q < 0)) (sgn s r - sgn t q).natAbs h
  rw [sgn_if] at h2 h3 h4
  exact ⟨_, T, e, h1, h2, h3, h4⟩

theorem add_is {x y : Nat} {R Q : Int} (hx : Is x R) (hy : Is y Q) (h : (R + Q).natAbs < 2 ^ 63) :
    ∃ z T, D.add x y = some z ∧ Is z T ∧ T ≤ R + Q + 1024 ∧ R + Q ≤ T + 1024 ∧ ((R + Q).natAbs < 2 ^ 53 → T = R + Q) := by
  obtain ⟨_, s, r, hx, rfl⟩ := hx
  obtain ⟨_, t, q, hy, rfl⟩ := hy
  have e := add_val hx hy
  obtain ⟨T, h1, h2, h3, h4⟩ := is_N (if sgn s r + sgn t q = 0 then s && t else decide (sgn s r + sgn t q < 0)) (sgn s r + sgn t q).natAbs h
  rw [sgn_if] at h2 h3 h4
  exact ⟨_, T, e, h1, h2, h3, h4⟩

theorem add_zero_is {x : Nat} {R : Int} (h : Is x R) : D.add x 0 = some (F R) := by
  obtain ⟨_, s, r, h, rfl⟩ := h
  have := add_zero_val h
  rw [c_zero] at this
  exact this

/-- in the range of a part -/
def inT (p : Int) : Bool := decide (-1099511627776 ≤ p) && decide (p ≤ 1099511627776)
theorem inT_iff {p : Int} : inT p = true ↔ -top ≤ p ∧ p ≤ top := by
  unfold inT top
  rw [Bool.and_eq_true, decide_eq_true_iff, decide_eq_true_iff]

theorem wh_is {x : Nat} {R : Int} (h : Is x R) : wh (F R) = inT R := by
  obtain ⟨hx, s, r, hv, rfl⟩ := h
  cases c : inT (sgn s r)
  · have hr : 1099511627776 < r := by
      rcases Nat.lt_or_ge 1099511627776 r with g | g
      · exact g
      · exfalso
        have : inT (sgn s r) = true := inT_iff.2 (by unfold sgn top; cases s <;> simp <;> omega)
        rw [this] at c; cases c
    have e := val_to_F hx hv (.inl (by omega))
    rw [← e]
    exact wh_no (not_whole_of_val hv hr)
  · exact wh_F (inT_iff.1 c).1 (inT_iff.1 c).2

theorem cmul_is (a b c d : Int) (ha : a.natAbs < 2 ^ 53) (hb : b.natAbs < 2 ^ 53) (hc : c.natAbs < 2 ^ 53) (hd : d.natAbs < 2 ^ 53)
    (h1 : (a * c).natAbs < 2 ^ 61) (h2 : (b * d).natAbs < 2 ^ 61) (h3 : (a * d).natAbs < 2 ^ 61) (h4 : (b * c).natAbs < 2 ^ 61) :
    ∃ x y R I, cMulBits (F a) (F b) (F c) (F d) = some (x, y) ∧ Is x R ∧ Is y I ∧ R ≤ a * c - b * d + 3072 ∧ a * c - b * d ≤ R + 3072 ∧ I ≤ a * d + b * c + 3072 ∧ a * d + b * c ≤ I + 3072 ∧
      ((a * c).natAbs < 2 ^ 52 → (b * d).natAbs < 2 ^ 52 → (a * d).natAbs < 2 ^ 52 → (b * c).natAbs < 2 ^ 52 → R = a * c - b * d ∧ I = a * d + b * c) := by
  obtain ⟨x1, R1, e1, i1, l1, u1, q1⟩ := prod_is a c ha hc (by omega)
  obtain ⟨x2, R2, e2, i2, l2, u2, q2⟩ := prod_is b d hb hd (by omega)
  obtain ⟨x3, R3, e3, i3, l3, u3, q3⟩ := prod_is a d ha hd (by omega)
  obtain ⟨x4, R4, e4, i4, l4, u4, q4⟩ := prod_is b c hb hc (by omega)
  obtain ⟨x, R, e5, i5, l5, u5, q5⟩ := sub_is i1 i2 (by omega)
  obtain ⟨y, I, e6, i6, l6, u6, q6⟩ := add_is i3 i4 (by omega)
  refine ⟨x, y, R, I, ?_, i5, i6, by omega, by omega, by omega, by omega, ?_⟩
  · unfold cMulBits floatBits
    simp only [e1, e2, e3, e4, e5, e6, Option.bind_some]
  · intro g1 g2 g3 g4
    have := q1 (by omega); have := q2 (by omega); have := q3 (by omega); have := q4 (by omega)
    have := q5 (by omega); have := q6 (by omega)
    omega

theorem sq_le {X : Int} {B : Nat} (h : X.natAbs ≤ B) : X * X ≤ ((B * B : Nat) : Int) := by
  have := Nat.mul_le_mul h h
  rw [← Int.natAbs_mul_self]
  exact Int.ofNat_le.2 this

theorem small_of_sq {X : Int} (h : X * X ≤ ((2 * (2 ^ 41 * 2 ^ 41) : Nat) : Int)) : X.natAbs < 2 ^ 52 := by
  rcases Nat.lt_or_ge X.natAbs (2 ^ 52) with g | g
  · exact g
  · exfalso
    have := Nat.mul_le_mul g g
    rw [← Int.natAbs_mul_self] at h
    have := Int.ofNat_le.1 h
    omega

/-- If the exact product's parts are small, so are all four products in them: its square is the squares' product. -/
theorem four_small (a b c d : Int) (h1 : (a * c - b * d).natAbs ≤ 2 ^ 41) (h2 : (a * d + b * c).natAbs ≤ 2 ^ 41) :
    (a * c).natAbs < 2 ^ 52 ∧ (b * d).natAbs < 2 ^ 52 ∧ (a * d).natAbs < 2 ^ 52 ∧ (b * c).natAbs < 2 ^ 52 := by
  have s1 := sq_le h1
  have s2 := sq_le h2
  have hxy : (a * c) * (b * d) = (a * d) * (b * c) := by
    rw [Int.mul_assoc, Int.mul_assoc, Int.mul_left_comm c b d, Int.mul_left_comm d b c, Int.mul_comm c d]
  generalize a * c = X at *
  generalize b * d = Y at *
  generalize a * d = Z at *
  generalize b * c = V at *
  have e1 : (X - Y) * (X - Y) = X * X - X * Y - (X * Y - Y * Y) := by rw [Int.sub_mul, Int.mul_sub, Int.mul_sub, Int.mul_comm Y X]
  have e2 : (Z + V) * (Z + V) = Z * Z + Z * V + (Z * V + V * V) := by rw [Int.add_mul, Int.mul_add, Int.mul_add, Int.mul_comm V Z]
  have p1 : 0 ≤ X * X := by rw [← Int.natAbs_mul_self]; exact Int.natCast_nonneg _
  have p2 : 0 ≤ Y * Y := by rw [← Int.natAbs_mul_self]; exact Int.natCast_nonneg _
  have p3 : 0 ≤ Z * Z := by rw [← Int.natAbs_mul_self]; exact Int.natCast_nonneg _
  have p4 : 0 ≤ V * V := by rw [← Int.natAbs_mul_self]; exact Int.natCast_nonneg _
  rw [e1] at s1
  rw [e2] at s2
  rw [hxy] at s1
  refine ⟨small_of_sq ?_, small_of_sq ?_, small_of_sq ?_, small_of_sq ?_⟩
  all_goals
    generalize X * X = xx at *
    generalize Y * Y = yy at *
    generalize Z * Z = zz at *
    generalize V * V = vv at *
    generalize Z * V = zv at *
    omega

theorem mul_bound {a c : Int} {A C : Nat} (ha : a.natAbs ≤ A) (hc : c.natAbs ≤ C) : (a * c).natAbs ≤ A * C := by
  rw [Int.natAbs_mul]; exact Nat.mul_le_mul ha hc
end Go.Proofs.Yteadkcekoccmdaa.Flo
