/-
  Fields of a word as plain data: what may be, what is put, what is told, what is beside. No condition.
-/
import Derived.Test.YtglibcmlophieaaRows
namespace Go.Proofs.Ytglibcmlophieaa

/-- some bits -/
structure Fd where
  f : Int
  n : Int
instance : Inhabited Fd := ⟨⟨0, 0⟩⟩
def Fd.inw (x : Fd) : Bool := decide (0 ≤ x.f) && (decide (x.f < 64) && (decide (1 ≤ x.n) && decide (x.n ≤ 64 - x.f)))
def Fd.bits (x : Fd) : Nat := (2 ^ x.n.toNat - 1) * 2 ^ x.f.toNat
def Fd.get (x : Fd) (w : Nat) : Nat := w / 2 ^ x.f.toNat % 2 ^ x.n.toNat

def goodFrom : Nat → List Fd → Bool
  | _, [] => true
  | t, x :: xs => x.inw && (decide (t &&& x.bits = 0) && goodFrom (t ||| x.bits) xs)
def good (l : List Fd) : Bool := goodFrom 0 l
def putFrom : Nat → List Fd → List Nat → Option Nat
  | w, x :: xs, v :: vs => if v < 2 ^ x.n.toNat then putFrom (w ||| v * 2 ^ x.f.toNat) xs vs else none
  | w, _, _ => some w
def put (l : List Fd) (v : List Nat) : Option Nat := if good l = true ∧ v.length = l.length then putFrom 0 l v else none
def gets (w : Nat) (l : List Fd) : List Nat := l.map (fun x => x.get w)
def top : Nat := 18446744073709551615
def restFrom : Nat → List Fd → Nat
  | w, [] => w
  | w, x :: xs => restFrom (w &&& (top - x.bits)) xs
def rest (w : Nat) (l : List Fd) : Nat := if good l = true then restFrom w l else w

theorem inw_iff {x : Fd} : x.inw = true ↔ 0 ≤ x.f ∧ x.f < 64 ∧ 1 ≤ x.n ∧ x.n ≤ 64 - x.f := by
  simp [Fd.inw]
/-- a field of a word, in Nats -/
theorem inw_nat {x : Fd} (h : x.inw = true) : ∃ f n : Nat, x = ⟨f, n⟩ ∧ 1 ≤ n ∧ f + n ≤ 64 := by
  obtain ⟨a, b, c, d⟩ := inw_iff.1 h
  obtain ⟨xf, xn⟩ := x
  simp only at a b c d
  obtain ⟨f, rfl⟩ := Int.eq_ofNat_of_zero_le a
  obtain ⟨n, rfl⟩ := Int.eq_ofNat_of_zero_le (show 0 ≤ xn by omega)
  exact ⟨f, n, rfl, by omega, by omega⟩

theorem bits_test (f n j : Nat) : ((2 ^ n - 1) * 2 ^ f).testBit j = decide (f ≤ j ∧ j < f + n) := by
  rw [← Nat.shiftLeft_eq, Nat.testBit_shiftLeft, Nat.testBit_two_pow_sub_one]
  by_cases h : f ≤ j
  · have : (j - f < n) ↔ (j < f + n) := by omega
    simp [h, this]
  · simp [h]
theorem Fd.bits_test (x : Fd) (j : Nat) : x.bits.testBit j = decide (x.f.toNat ≤ j ∧ j < x.f.toNat + x.n.toNat) := Go.Proofs.Ytglibcmlophieaa.bits_test _ _ _
theorem mul_test (v f j : Nat) : (v * 2 ^ f).testBit j = (decide (f ≤ j) && v.testBit (j - f)) := by
  rw [← Nat.shiftLeft_eq, Nat.testBit_shiftLeft]
theorem Fd.get_test (x : Fd) (w k : Nat) : (x.get w).testBit k = (decide (k < x.n.toNat) && w.testBit (x.f.toNat + k)) := by
  rw [Fd.get, Nat.testBit_mod_two_pow, Nat.testBit_div_two_pow, Nat.add_comm]
theorem Fd.get_lt (x : Fd) (w : Nat) : x.get w < 2 ^ x.n.toNat := Nat.mod_lt _ (Nat.two_pow_pos _)
theorem lt_test {v n : Nat} (h : v < 2 ^ n) {k : Nat} (hk : n ≤ k) : v.testBit k = false :=
  Nat.testBit_lt_two_pow (Nat.lt_of_lt_of_le h (Nat.pow_le_pow_right (by decide) hk))
theorem Fd.bits_le {x : Fd} (h : x.inw = true) : x.bits ≤ top := by
  obtain ⟨f, n, rfl, h1, h2⟩ := inw_nat h
  have : (2 ^ n - 1) * 2 ^ f < 2 ^ 64 := by
    have e : (2 ^ n - 1) * 2 ^ f < 2 ^ n * 2 ^ f := Nat.mul_lt_mul_of_pos_right (Nat.sub_lt (Nat.two_pow_pos _) (by decide)) (Nat.two_pow_pos _)
    rw [← Nat.pow_add] at e
    exact Nat.lt_of_lt_of_le e (Nat.pow_le_pow_right (by decide) (by omega))
  show (2 ^ n - 1) * 2 ^ f ≤ 18446744073709551615
  omega
theorem top_test {b j : Nat} (h : b ≤ top) : (top - b).testBit j = (decide (j < 64) && !b.testBit j) := by
  have := Nat.testBit_two_pow_sub_succ (x := b) (n := 64) (by unfold top at h; omega) j
  rw [← this]
  congr 1
  show 18446744073709551615 - b = 2 ^ 64 - (b + 1)
  omega
theorem disj_iff {a b : Nat} : a &&& b = 0 ↔ ∀ j, a.testBit j = true → b.testBit j = false := by
  constructor
  · intro h j hj
    have := congrArg (fun x => Nat.testBit x j) h
    simp [Nat.testBit_and, hj] at this
    exact this
  · intro h
    apply Nat.eq_of_testBit_eq
    intro j
    rw [Nat.testBit_and, Nat.zero_testBit]
    cases e : a.testBit j
    · rfl
    · rw [h j e]; rfl

/-- all bits of the fields -/
def mask : List Fd → Nat
  | [] => 0
  | x :: xs => x.bits ||| mask xs
def Sep : List Fd → Prop
  | [] => True
  | x :: xs => x.inw = true ∧ x.bits &&& mask xs = 0 ∧ Sep xs
theorem goodFrom_iff (l : List Fd) : ∀ t, goodFrom t l = true ↔ Sep l ∧ t &&& mask l = 0 := by
  induction l with
  | nil => intro t; simp [goodFrom, Sep, mask]
  | cons x xs ih =>
    intro t
    simp only [goodFrom, Bool.and_eq_true, decide_eq_true_eq, ih, Sep, mask]
    constructor
    · rintro ⟨h1, h2, h3, h4⟩
      refine ⟨⟨h1, ?_, h3⟩, ?_⟩
      · rw [disj_iff] at h4 ⊢
        intro j hj; exact h4 j (by rw [Nat.testBit_or, hj, Bool.or_true])
      · rw [disj_iff] at h2 h4 ⊢
        intro j hj; rw [Nat.testBit_or, h2 j hj, h4 j (by rw [Nat.testBit_or, hj]; rfl)]; rfl
    · rintro ⟨⟨h1, h2, h3⟩, h4⟩
      rw [disj_iff] at h2 h4
      refine ⟨h1, ?_, h3, ?_⟩
      · rw [disj_iff]; intro j hj
        have := h4 j hj; rw [Nat.testBit_or] at this
        exact (Bool.or_eq_false_iff.1 this).1
      · rw [disj_iff]; intro j hj
        rw [Nat.testBit_or] at hj
        cases e : t.testBit j
        · rw [e, Bool.false_or] at hj; exact h2 j hj
        · have := h4 j e; rw [Nat.testBit_or] at this
          exact (Bool.or_eq_false_iff.1 this).2
theorem good_iff (l : List Fd) : good l = true ↔ Sep l := by
  rw [good, goodFrom_iff]; simp
theorem Sep.mask_le {l : List Fd} (h : Sep l) : mask l ≤ top := by
  induction l with
  | nil => exact Nat.zero_le _
  | cons x xs ih =>
    have h1 := Fd.bits_le h.1
    have h2 := ih h.2.2
    have : x.bits ||| mask xs < 2 ^ 64 := Nat.or_lt_two_pow (by unfold top at h1; omega) (by unfold top at h2; omega)
    show x.bits ||| mask xs ≤ 18446744073709551615
    omega

/-- the values fit -/
def Fits : List Fd → List Nat → Prop
  | x :: xs, v :: vs => v < 2 ^ x.n.toNat ∧ Fits xs vs
  | _, _ => True
def putL : List Fd → List Nat → Nat
  | x :: xs, v :: vs => v * 2 ^ x.f.toNat ||| putL xs vs
  | _, _ => 0
theorem putFrom_fits (l : List Fd) : ∀ (w : Nat) (v : List Nat), Fits l v → putFrom w l v = some (w ||| putL l v) := by
  induction l with
  | nil => intro w v _; simp [putFrom, putL]
  | cons x xs ih =>
    intro w v h
    cases v with
    | nil => simp [putFrom, putL]
    | cons v vs =>
      simp only [putFrom, putL]
      rw [if_pos h.1, ih _ _ h.2, Nat.or_assoc]
theorem putFrom_none (l : List Fd) : ∀ (w : Nat) (v : List Nat), ¬ Fits l v → putFrom w l v = none := by
  induction l with
  | nil => intro w v h; exact absurd (by cases v <;> trivial) h
  | cons x xs ih =>
    intro w v h
    cases v with
    | nil => exact absurd trivial h
    | cons v vs =>
      simp only [putFrom]
      split
      · rename_i h1; exact ih _ _ (fun h2 => h ⟨h1, h2⟩)
      · rfl
theorem fits_gets (w : Nat) (l : List Fd) : Fits l (gets w l) := by
  induction l with
  | nil => trivial
  | cons x xs ih => exact ⟨x.get_lt w, ih⟩
theorem get_mul (x : Fd) (w : Nat) : x.get w * 2 ^ x.f.toNat = w &&& x.bits := by
  apply Nat.eq_of_testBit_eq
  intro j
  rw [mul_test, x.get_test, Nat.testBit_and, x.bits_test]
  by_cases h : x.f.toNat ≤ j
  · have e : x.f.toNat + (j - x.f.toNat) = j := by omega
    have e2 : (j - x.f.toNat < x.n.toNat) ↔ (j < x.f.toNat + x.n.toNat) := by omega
    simp [h, e, e2, Bool.and_comm]
  · simp [h]
theorem putL_gets (w : Nat) (l : List Fd) : putL l (gets w l) = w &&& mask l := by
  induction l with
  | nil => simp [putL, mask]
  | cons x xs ih =>
    show x.get w * 2 ^ x.f.toNat ||| putL xs (gets w xs) = w &&& (x.bits ||| mask xs)
    rw [ih, get_mul, Nat.and_or_distrib_left]
theorem restFrom_eq (l : List Fd) : ∀ (w : Nat), Sep l → w ≤ top → restFrom w l = w &&& (top - mask l) := by
  induction l with
  | nil =>
    intro w _ hw
    apply Nat.eq_of_testBit_eq
    intro j
    simp only [restFrom, mask]
    rw [Nat.testBit_and, top_test (Nat.zero_le _)]
    by_cases h : j < 64
    · simp [h]
    · have : w.testBit j = false := lt_test (n := 64) (by unfold top at hw; omega) (by omega)
      simp [this]
  | cons x xs ih =>
    intro w h hw
    show restFrom (w &&& (top - x.bits)) xs = _
    rw [ih _ h.2.2 (Nat.le_trans Nat.and_le_left hw), Nat.and_assoc]
    congr 1
    apply Nat.eq_of_testBit_eq
    intro j
    rw [Nat.testBit_and, top_test (Fd.bits_le h.1), top_test h.2.2.mask_le, top_test h.mask_le]
    show _ = (decide (j < 64) && !(x.bits ||| mask xs).testBit j)
    rw [Nat.testBit_or]
    cases x.bits.testBit j <;> cases (mask xs).testBit j <;> simp
theorem get_mask {l : List Fd} (w : Nat) {x : Fd} (hx : x ∈ l) : x.get (w &&& mask l) = x.get w := by
  have hm : ∀ j, x.bits.testBit j = true → (mask l).testBit j = true := by
    intro j hj
    induction l with
    | nil => cases hx
    | cons y ys ih =>
      show (y.bits ||| mask ys).testBit j = true
      rw [Nat.testBit_or]
      rcases List.mem_cons.1 hx with rfl | h
      · rw [hj]; rfl
      · rw [ih h, Bool.or_true]
  apply Nat.eq_of_testBit_eq
  intro k
  rw [x.get_test, x.get_test, Nat.testBit_and]
  by_cases h : k < x.n.toNat
  · rw [hm _ (by rw [x.bits_test]; simp; omega), Bool.and_true]
  · simp [h]
theorem gets_mask (w : Nat) (l : List Fd) : gets (w &&& mask l) l = gets w l := by
  unfold gets
  exact List.map_congr_left (fun x hx => get_mask w hx)
theorem gets_put (l : List Fd) : ∀ (v : List Nat) (r : Nat), Sep l → Fits l v → v.length = l.length → r &&& mask l = 0 → gets (putL l v ||| r) l = v := by
  induction l with
  | nil => intro v r _ _ hl _; cases v with
    | nil => rfl
    | cons a b => simp at hl
  | cons x xs ih =>
    intro v r hs hf hl hr
    cases v with
    | nil => simp at hl
    | cons v vs =>
      have hp : ∀ (ys : List Fd) (us : List Nat), Fits ys us → ∀ j, (mask ys).testBit j = false → (putL ys us).testBit j = false := by
        intro ys
        induction ys with
        | nil => intro us _ j _; cases us <;> simp [putL]
        | cons y ys ih =>
          intro us hf j hj
          cases us with
          | nil => simp [putL]
          | cons u us =>
            simp only [mask, Nat.testBit_or, Bool.or_eq_false_iff] at hj
            show (u * 2 ^ y.f.toNat ||| putL ys us).testBit j = false
            rw [Nat.testBit_or, ih us hf.2 j hj.2, Bool.or_false, mul_test]
            by_cases h : y.f.toNat ≤ j
            · have h1 := hj.1
              rw [y.bits_test] at h1
              simp at h1
              rw [lt_test hf.1 (by omega), Bool.and_false]
            · simp [h]
      have hx := hs.2.1
      rw [disj_iff] at hx hr
      have hr' : ∀ j, x.bits.testBit j = true → r.testBit j = false := by
        intro j hj
        cases e : r.testBit j
        · rfl
        · have := hr j e
          simp only [mask, Nat.testBit_or, Bool.or_eq_false_iff] at this
          rw [this.1] at hj; cases hj
      show x.get _ :: gets _ xs = _
      congr 1
      · apply Nat.eq_of_testBit_eq
        intro k
        rw [x.get_test]
        by_cases h : k < x.n.toNat
        · have hb : x.bits.testBit (x.f.toNat + k) = true := by rw [x.bits_test]; simp; omega
          show (decide (k < x.n.toNat) && (v * 2 ^ x.f.toNat ||| putL xs vs ||| r).testBit (x.f.toNat + k)) = _
          rw [Nat.testBit_or, Nat.testBit_or, hr' _ hb, hp xs vs hf.2 _ (hx _ hb), mul_test]
          simp [h]
        · rw [lt_test hf.1 (by omega)]; simp [h]
      · have e : putL (x :: xs) (v :: vs) ||| r = putL xs vs ||| (v * 2 ^ x.f.toNat ||| r) := by
          show (v * 2 ^ x.f.toNat ||| putL xs vs) ||| r = _
          rw [← Nat.or_assoc, Nat.or_comm (putL xs vs)]
        rw [e]
        refine ih vs _ hs.2.2 hf.2 (by simpa using hl) ?_
        rw [disj_iff]
        intro j hj
        rw [Nat.testBit_or] at hj
        cases e1 : r.testBit j
        · rw [e1, Bool.or_false, mul_test] at hj
          refine hx j ?_
          rw [x.bits_test]
          by_cases h : x.f.toNat ≤ j
          · simp only [h, decide_true, Bool.true_and] at hj
            have : ¬ x.n.toNat ≤ j - x.f.toNat := fun q => by rw [lt_test hf.1 q] at hj; cases hj
            simp; omega
          · simp [h] at hj
        · have := hr j e1
          simp only [mask, Nat.testBit_or, Bool.or_eq_false_iff] at this
          exact this.2

theorem and_or_not {w m : Nat} (hw : w ≤ top) (hm : m ≤ top) : (w &&& m) ||| (w &&& (top - m)) = w := by
  apply Nat.eq_of_testBit_eq
  intro j
  rw [Nat.testBit_or, Nat.testBit_and, Nat.testBit_and, top_test hm]
  by_cases h : j < 64
  · cases w.testBit j <;> cases m.testBit j <;> simp [h]
  · have : w.testBit j = false := lt_test (n := 64) (by unfold top at hw; omega) (by omega)
    simp [this]
theorem and_not_and {w m : Nat} (hm : m ≤ top) (a : Nat) : (a &&& m) &&& (w &&& (top - m)) = 0 := by
  rw [disj_iff]
  intro j h
  rw [Nat.testBit_and, top_test hm]
  rw [Nat.testBit_and, Bool.and_eq_true] at h
  simp [h.2]
end Go.Proofs.Ytglibcmlophieaa
