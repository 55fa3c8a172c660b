/-
  One of a word's four parts turned, and what that does to Spin: plain arithmetic for the law GaussSpins.
-/
import Derived.Test.YtpbekngchhafcaaWq
namespace Go.Proofs.Ytpbekngchhafcaa
open Go.RowKit Flo

theorem part_bits (X t p q Y : Nat) (ht : t < 65536) (hq : q ≤ 3)
    (hY : ∀ i, i < 64 → Y.testBit i = (X.testBit i && !(65535 * 2 ^ (16 * p)).testBit i || (t * 2 ^ (16 * p)).testBit i)) :
    Y / 2 ^ (16 * q) % 2 ^ 16 = if q = p then t else X / 2 ^ (16 * q) % 2 ^ 16 := by
  refine Nat.eq_of_testBit_eq fun j => ?_
  have hm : ∀ i, (65535 * 2 ^ (16 * p)).testBit i = (decide (16 * p ≤ i) && decide (i - 16 * p < 16)) := by
    intro i
    rw [Nat.testBit_mul_two_pow, Nat.testBit_two_pow_sub_one 16 (i - 16 * p)]
  have htb : ∀ i, 16 ≤ i → t.testBit i = false := fun i hi => Nat.testBit_lt_two_pow (Nat.lt_of_lt_of_le ht (Nat.pow_le_pow_right (n := 2) (i := 16) (by omega) hi))
  rw [Nat.testBit_mod_two_pow, Nat.testBit_div_two_pow]
  by_cases hj : j < 16
  · rw [hY (j + 16 * q) (by omega), hm, Nat.testBit_mul_two_pow]
    split
    · rename_i h; subst h
      have e : j + 16 * q - 16 * q = j := by omega
      simp [hj, e]
    · rename_i h
      rw [Nat.testBit_mod_two_pow, Nat.testBit_div_two_pow]
      by_cases hlt : p < q
      · have g := htb (j + 16 * q - 16 * p) (by omega)
        have n : ¬ (j + 16 * q - 16 * p < 16) := by omega
        simp [hj, g, n]
      · have n : ¬ (16 * p ≤ j + 16 * q) := by omega
        simp [hj, n]
  · split
    · simp [hj, htb j (by omega)]
    · rw [Nat.testBit_mod_two_pow]; simp [hj]

/-- the word behind the turn -/
def put (x : Int) (p : Nat) (t : Int) : Int := bits .or .u64 (bits .andNot .u64 x (65535 * 2 ^ (16 * p))) (t * 2 ^ (16 * p))

theorem wrap_small {n : Nat} (h : n < 2 ^ 64) : IntKind.u64.wrap (n : Int) = n := by
  unfold IntKind.wrap
  simp only [show IntKind.u64.signed = false from rfl, show IntKind.u64.bits = 64 from rfl, Bool.false_and, Bool.false_eq_true, if_false]
  omega

theorem put_nat (X t p : Nat) : ∃ Y : Nat, put (X : Int) p (t : Int) = (Y : Int) ∧ Y < 2 ^ 64 ∧ ∀ i, i < 64 → Y.testBit i = (X.testBit i && !(65535 * 2 ^ (16 * p)).testBit i || (t * 2 ^ (16 * p)).testBit i) := by
  have hw : ∀ a : BitVec 64, IntKind.u64.wrap (a.toNat : Int) = (a.toNat : Int) := fun a => wrap_small a.isLt
  refine ⟨((BitVec.ofNat 64 X &&& ~~~(BitVec.ofNat 64 (65535 * 2 ^ (16 * p)))) ||| BitVec.ofNat 64 (t * 2 ^ (16 * p))).toNat, ?_, BitVec.isLt _, fun i hi => ?_⟩
  · have e1 : BitVec.ofInt 64 (X : Int) = BitVec.ofNat 64 X := BitVec.ofInt_natCast 64 X
    have e2 : BitVec.ofInt 64 (65535 * 2 ^ (16 * p) : Int) = BitVec.ofNat 64 (65535 * 2 ^ (16 * p)) := by
      have := BitVec.ofInt_natCast 64 (65535 * 2 ^ (16 * p))
      rw [← this]; congr 1
    have e3 : BitVec.ofInt 64 ((t : Int) * 2 ^ (16 * p)) = BitVec.ofNat 64 (t * 2 ^ (16 * p)) := by
      have := BitVec.ofInt_natCast 64 (t * 2 ^ (16 * p))
      rw [← this]; congr 1
    have e4 : ∀ a : BitVec 64, BitVec.ofInt 64 ((a.toNat : Nat) : Int) = a := by
      intro a
      rw [BitVec.ofInt_natCast, BitVec.ofNat_toNat, BitVec.setWidth_eq]
    show IntKind.u64.wrap ((BitVec.ofInt 64 (IntKind.u64.wrap ((BitVec.ofInt 64 (X : Int) &&& ~~~(BitVec.ofInt 64 (65535 * 2 ^ (16 * p) : Int))).toNat : Int)) ||| BitVec.ofInt 64 ((t : Int) * 2 ^ (16 * p))).toNat : Int) = _
    rw [hw, hw, e1, e2, e3, e4]
  · simp only [BitVec.testBit_toNat, BitVec.getLsbD_or, BitVec.getLsbD_and, BitVec.getLsbD_not, BitVec.getLsbD_ofNat, hi, decide_true, Bool.true_and]

/-- what the word behind the turn is: its four parts -/
theorem put_parts (x : Int) (p : Nat) (t : Int) (hx : Wd x) (ht : 0 ≤ t ∧ t ≤ 65535) :
    Wd (put x p t) ∧ put x p t % 65536 = (if p = 0 then t else x % 65536) ∧ put x p t / 65536 % 65536 = (if p = 1 then t else x / 65536 % 65536) ∧
    put x p t / 4294967296 % 65536 = (if p = 2 then t else x / 4294967296 % 65536) ∧ put x p t / 281474976710656 = (if p = 3 then t else x / 281474976710656) := by
  obtain ⟨X, rfl⟩ := Int.eq_ofNat_of_zero_le hx.1
  obtain ⟨T, rfl⟩ := Int.eq_ofNat_of_zero_le ht.1
  obtain ⟨Y, e, hY, hb⟩ := put_nat X T p
  have h0 := part_bits X T p 0 Y (by omega) (by omega) hb
  have h1 := part_bits X T p 1 Y (by omega) (by omega) hb
  have h2 := part_bits X T p 2 Y (by omega) (by omega) hb
  have h3 := part_bits X T p 3 Y (by omega) (by omega) hb
  have hx2 := hx.2
  clear hb
  rw [e]
  unfold Wd
  simp only [Nat.mul_zero, Nat.pow_zero, Nat.div_one, Nat.mul_one] at h0 h1
  refine ⟨by omega, ?_, ?_, ?_, ?_⟩
  · clear h1 h2 h3; by_cases c : p = 0
    · rw [if_pos c.symm] at h0; rw [if_pos c]; omega
    · rw [if_neg (fun h => c h.symm)] at h0; rw [if_neg c]; omega
  · clear h0 h2 h3; by_cases c : p = 1
    · rw [if_pos c.symm] at h1; rw [if_pos c]; omega
    · rw [if_neg (fun h => c h.symm)] at h1; rw [if_neg c]; omega
  · clear h0 h1 h3; by_cases c : p = 2
    · rw [if_pos c.symm] at h2; rw [if_pos c]; omega
    · rw [if_neg (fun h => c h.symm)] at h2; rw [if_neg c]; omega
  · clear h0 h1 h2; by_cases c : p = 3
    · rw [if_pos c.symm] at h3; rw [if_pos c]; omega
    · rw [if_neg (fun h => c h.symm)] at h3; rw [if_neg c]; omega

/-- Spin's steps keep apart what is apart. -/
theorem step_inj (l : List Int) : ∀ (a b c d : Int), 0 ≤ a ∧ a ≤ 1000002 → 0 ≤ b ∧ b ≤ 1000002 → 0 ≤ c ∧ c ≤ 1000002 → 0 ≤ d ∧ d ≤ 1000002 → l.foldl step (a, b) = l.foldl step (c, d) → a = c ∧ b = d := by
  induction l with
  | nil => intro a b c d _ _ _ _ h; simp only [List.foldl_nil, Prod.mk.injEq] at h; exact h
  | cons x r ih =>
    intro a b c d ha hb hc hd h
    have := ih (stepA a b x) (stepB a b x) (stepA c d x) (stepB c d x) (res_range _) (res_range _) (res_range _) (res_range _) h
    unfold stepA stepB res at this
    omega

theorem mod_cancel {u v : Int} (c d : Int) (hu : 0 ≤ u ∧ u ≤ 65535) (hv : 0 ≤ v ∧ v ≤ 65535) (hc : c = d) (h : res (c + u) = res (d + v)) : u = v := by
  subst hc; unfold res at h; omega
theorem mod_cancel' {u v : Int} (c d : Int) (hu : 0 ≤ u ∧ u ≤ 65535) (hv : 0 ≤ v ∧ v ≤ 65535) (hc : c = d) (h : res (c - u) = res (d - v)) : u = v := by
  subst hc; unfold res at h; omega
theorem word_eq {x y : Int} (h0 : y % 65536 = x % 65536) (h1 : y / 65536 % 65536 = x / 65536 % 65536) (h2 : y / 4294967296 % 65536 = x / 4294967296 % 65536) (h3 : y / 281474976710656 = x / 281474976710656) : x = y := by
  have a1 := Int.mul_ediv_add_emod x 65536
  have a2 := Int.mul_ediv_add_emod (x / 65536) 65536
  have a3 := Int.mul_ediv_add_emod (x / 4294967296) 65536
  have b1 := Int.mul_ediv_add_emod y 65536
  have b2 := Int.mul_ediv_add_emod (y / 65536) 65536
  have b3 := Int.mul_ediv_add_emod (y / 4294967296) 65536
  have c1 : x / 65536 / 65536 = x / 4294967296 := Int.ediv_ediv_of_nonneg (by decide)
  have c2 : x / 4294967296 / 65536 = x / 281474976710656 := Int.ediv_ediv_of_nonneg (by decide)
  have d1 : y / 65536 / 65536 = y / 4294967296 := Int.ediv_ediv_of_nonneg (by decide)
  have d2 : y / 4294967296 / 65536 = y / 281474976710656 := Int.ediv_ediv_of_nonneg (by decide)
  rw [c1] at a2
  rw [c2] at a3
  rw [d1] at b2
  rw [d2] at b3
  rw [h0] at b1
  rw [h1] at b2
  rw [h2, h3] at b3
  generalize x % 65536 = r0 at *
  generalize x / 65536 % 65536 = r1 at *
  generalize x / 4294967296 % 65536 = r2 at *
  generalize x / 281474976710656 = r3 at *
  generalize x / 4294967296 = r4 at *
  generalize y / 4294967296 = r5 at *
  generalize x / 65536 = r6 at *
  generalize y / 65536 = r7 at *
  clear h0 h1 h2 h3 c1 c2 d1 d2
  omega
theorem part_range (x : Int) : (0 ≤ x % 65536 ∧ x % 65536 ≤ 65535) := by omega

/-- A word that is another in one part alone spins to another one. -/
theorem spin_put (zs : List Int) (i p : Nat) (t : Int) (hW : Wds zs) (hi : i < zs.length) (hp : p ≤ 3) (ht : 0 ≤ t ∧ t ≤ 65535) :
    spin (zs.set i (put (zs.getD i 0) p t)) = spin zs ↔ zs.getD i 0 = put (zs.getD i 0) p t := by
  have hx := hW.at hi
  obtain ⟨hy, y0, y1, y2, y3⟩ := put_parts (zs.getD i 0) p t hx ht
  have ex : zs.getD i 0 = zs[i] := by rw [List.getD, List.getElem?_eq_getElem hi]; rfl
  have e1 : zs = zs.take i ++ zs.getD i 0 :: zs.drop (i + 1) := by rw [ex, List.getElem_cons_drop, List.take_append_drop]
  have e2 : zs.set i (put (zs.getD i 0) p t) = zs.take i ++ put (zs.getD i 0) p t :: zs.drop (i + 1) := List.set_eq_take_append_cons_drop.trans (if_pos hi)
  have s1 : spin zs = (zs.drop (i + 1)).foldl step (step (spin (zs.take i)) (zs.getD i 0)) := by
    conv => lhs; rw [e1]
    unfold spin; rw [List.foldl_append]; rfl
  have s2 : spin (zs.set i (put (zs.getD i 0) p t)) = (zs.drop (i + 1)).foldl step (step (spin (zs.take i)) (put (zs.getD i 0) p t)) := by
    rw [e2]; unfold spin; rw [List.foldl_append]; rfl
  rw [s1, s2]
  clear e1 e2 s1 s2 ex
  generalize zs.getD i 0 = x at *
  generalize put x p t = y at *
  constructor
  · intro h
    have := step_inj _ _ _ _ _ (res_range _) (res_range _) (res_range _) (res_range _) h
    obtain ⟨r1, r2⟩ := spin_range (zs.take i)
    generalize (spin (zs.take i)).1 = a at *
    generalize (spin (zs.take i)).2 = b at *
    obtain ⟨h1, h2⟩ := this
    have hpp : p = 0 ∨ p = 1 ∨ p = 2 ∨ p = 3 := by omega
    have hx3 : 0 ≤ x / 281474976710656 ∧ x / 281474976710656 ≤ 65535 := by unfold Wd at hx; omega
    rcases hpp with rfl | rfl | rfl | rfl
    · rw [if_pos rfl] at y0
      rw [if_neg (by decide)] at y1 y2 y3
      refine word_eq ?_ y1 y2 y3
      rw [y0]
      refine mod_cancel (-b - x / 4294967296 % 65536) (-b - x / 4294967296 % 65536) ht (part_range x) rfl ?_
      rw [y0, y2] at h1
      have e1 : -b - x / 4294967296 % 65536 + t = -b + t - x / 4294967296 % 65536 := by generalize x / 4294967296 % 65536 = r; omega
      have e2 : -b - x / 4294967296 % 65536 + x % 65536 = -b + x % 65536 - x / 4294967296 % 65536 := by generalize x / 4294967296 % 65536 = r; generalize x % 65536 = r'; omega
      rw [e1, e2]; exact h1
    · rw [if_pos rfl] at y1
      rw [if_neg (by decide)] at y0 y2 y3
      refine word_eq y0 ?_ y2 y3
      rw [y1]
      refine mod_cancel (a - x / 281474976710656) (a - x / 281474976710656) ht (part_range _) rfl ?_
      rw [y1, y3] at h2
      have e1 : a - x / 281474976710656 + t = a + t - x / 281474976710656 := by generalize x / 281474976710656 = r; omega
      have e2 : a - x / 281474976710656 + x / 65536 % 65536 = a + x / 65536 % 65536 - x / 281474976710656 := by generalize x / 281474976710656 = r; generalize x / 65536 % 65536 = r'; omega
      rw [e1, e2]; exact h2
    · rw [if_pos rfl] at y2
      rw [if_neg (by decide)] at y0 y1 y3
      refine word_eq y0 y1 ?_ y3
      rw [y2]
      refine mod_cancel' (-b + x % 65536) (-b + x % 65536) ht (part_range _) rfl ?_
      rw [y0, y2] at h1
      exact h1
    · rw [if_pos rfl] at y3
      rw [if_neg (by decide)] at y0 y1 y2
      refine word_eq y0 y1 y2 ?_
      rw [y3]
      refine mod_cancel' (a + x / 65536 % 65536) (a + x / 65536 % 65536) ht hx3 rfl ?_
      rw [y1, y3] at h2
      exact h2
  · intro h; rw [← h]
end Go.Proofs.Ytpbekngchhafcaa
