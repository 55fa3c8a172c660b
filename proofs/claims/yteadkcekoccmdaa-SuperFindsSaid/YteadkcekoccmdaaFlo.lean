/-
  Plain arithmetic of the model's doubles, with no program in it: which words whole numbers have, and what sums, differences, products and comparisons of them give.
-/
import Derived.Laws.ComplexArith
namespace Go.Proofs.Yteadkcekoccmdaa.Flo
open Ieee

abbrev D : Format := FloatKind.f64.format

theorem binade_eq : D.binade = 2 ^ 52 := rfl
theorem least_eq : D.leastPlace = -1074 := by decide
theorem inf_eq : D.infRung = 2047 * 2 ^ 52 := by decide
theorem weight_eq : D.signWeight = 2 ^ 63 := by decide
theorem fraction_eq : D.fractionBits = 52 := rfl

theorem log2_mul_pow (n j : Nat) (h : n ≠ 0) : (n * 2 ^ j).log2 = n.log2 + j := by
  have hp : 0 < 2 ^ j := Nat.two_pow_pos j
  have h0 : n * 2 ^ j ≠ 0 := by
    have := Nat.mul_pos (Nat.pos_of_ne_zero h) hp
    omega
  refine (Nat.log2_eq_iff h0).2 ⟨?_, ?_⟩
  · rw [Nat.pow_add]
    exact Nat.mul_le_mul_right _ (Nat.log2_self_le h)
  · have : n.log2 + j + 1 = (n.log2 + 1) + j := by omega
    rw [this, Nat.pow_add]
    exact Nat.mul_lt_mul_of_pos_right Nat.lt_log2_self hp

theorem cut_zero (way : Toward) (neg : Bool) (n : Nat) : way.cut neg n 0 = n := by
  unfold Toward.cut
  cases way <;> simp [Nat.mod_one]

theorem one_shift (a : Nat) : 1 <<< a = 2 ^ a := by simp [Nat.shiftLeft_eq]

theorem cut_scale (way : Toward) (neg : Bool) (n d j : Nat) (h : n ≠ 0) : way.cut neg (n * 2 ^ j) (d + j) = way.cut neg n d := by
  have hp : 0 < 2 ^ j := Nat.two_pow_pos j
  have hg : 1 <<< min (d + j) ((n * 2 ^ j).log2 + 2) = (1 <<< min d (n.log2 + 2)) * 2 ^ j := by
    rw [log2_mul_pow _ _ h, one_shift, one_shift, ← Nat.pow_add]
    congr 1; omega
  unfold Toward.cut
  simp only [hg]
  generalize 1 <<< min d (n.log2 + 2) = g
  rw [Nat.mul_div_mul_right _ _ hp, Nat.mul_mod_mul_right]
  have e1 : (g * 2 ^ j < 2 * (n % g * 2 ^ j)) ↔ (g < 2 * (n % g)) := by
    rw [← Nat.mul_assoc]; exact Nat.mul_lt_mul_right hp
  have e2 : (g * 2 ^ j = 2 * (n % g * 2 ^ j)) ↔ (g = 2 * (n % g)) := by
    rw [← Nat.mul_assoc]; exact Nat.mul_right_cancel_iff hp
  have e3 : (n % g * 2 ^ j = 0) ↔ (n % g = 0) := by
    constructor
    · intro e; rcases Nat.mul_eq_zero.1 e with e | e
      · exact e
      · omega
    · intro e; simp [e]
  cases way <;> simp [bne, e1, e2, e3, BEq.beq, -decide_eq_true_eq]

/-- An exact drop leaves nothing over. -/
theorem cut_exact (way : Toward) (neg : Bool) (n j d : Nat) (h : n ≠ 0) (hd : d ≤ j) : way.cut neg (n * 2 ^ j) d = n * 2 ^ (j - d) := by
  have e : n * 2 ^ j = (n * 2 ^ (j - d)) * 2 ^ d := by rw [Nat.mul_assoc, ← Nat.pow_add]; congr 2; omega
  have h0 : n * 2 ^ (j - d) ≠ 0 := by
    have := Nat.mul_pos (Nat.pos_of_ne_zero h) (Nat.two_pow_pos (j - d))
    omega
  have := cut_scale way neg (n * 2 ^ (j - d)) 0 d h0
  rw [Nat.zero_add] at this
  rw [e, this, cut_zero]

/-- The nearest word hangs on the number alone, not on how it is written. -/
theorem nearest_scale (neg : Bool) (mag j : Nat) (place : Int) (h : mag ≠ 0) : D.nearest neg (mag * 2 ^ j) (place - j) = D.nearest neg mag place := by
  have hp : 0 < 2 ^ j := Nat.two_pow_pos j
  have h0 : mag * 2 ^ j ≠ 0 := by
    have := Nat.mul_pos (Nat.pos_of_ne_zero h) hp
    omega
  unfold Format.nearest
  rw [if_neg h0, if_neg h, log2_mul_pow _ _ h]
  have el : max (place - (j : Int) + ((mag.log2 + j : Nat) : Int) - (D.fractionBits : Int)) D.leastPlace = max (place + (mag.log2 : Int) - (D.fractionBits : Int)) D.leastPlace := by
    congr 1; push_cast; omega
  simp only [el]
  generalize max (place + (mag.log2 : Int) - (D.fractionBits : Int)) D.leastPlace = last
  have key : Toward.even.cut neg ((mag * 2 ^ j) <<< (place - ↑j - last).toNat) (last - (place - ↑j)).toNat = Toward.even.cut neg (mag <<< (place - last).toNat) (last - place).toNat := by
    rw [Nat.shiftLeft_eq, Nat.shiftLeft_eq]
    by_cases c1 : place < last
    · have a1 : (place - ↑j - last).toNat = 0 := by omega
      have a2 : (place - last).toNat = 0 := by omega
      have a3 : (last - (place - ↑j)).toNat = (last - place).toNat + j := by omega
      rw [a1, a2, a3, Nat.pow_zero, Nat.mul_one, Nat.mul_one, cut_scale _ _ _ _ _ h]
    · have a3 : (last - place).toNat = 0 := by omega
      rw [a3, cut_zero]
      by_cases c2 : place - last < j
      · have a1 : (place - ↑j - last).toNat = 0 := by omega
        rw [a1, Nat.pow_zero, Nat.mul_one, cut_exact _ _ _ _ _ h (by omega)]
        congr 2; omega
      · have a2 : (last - (place - ↑j)).toNat = 0 := by omega
        rw [a2, cut_zero, Nat.mul_assoc, ← Nat.pow_add]
        congr 2; omega
  rw [key]

/-- The word of '±r', r a whole number: what it is rounded to. -/
def N (neg : Bool) (r : Nat) : Nat := D.nearest neg r 0

theorem some_K : ∃ k : Nat, k = 1074 := ⟨1074, rfl⟩
noncomputable def K : Nat := Classical.choose some_K
theorem K_eq : K = 1074 := Classical.choose_spec some_K
/-- how many units of the least place one is -/
noncomputable def U : Nat := 2 ^ K
theorem U_pos : 0 < U := Nat.two_pow_pos K
theorem pow_U (k : Nat) : 2 ^ (k + K) = 2 ^ k * U := Nat.pow_add 2 k K

/-- 'x' is the finite number '±u' in units of the least place. -/
def Fin (x : Nat) (neg : Bool) (u : Nat) : Prop := ∃ m e, D.read x = .number neg m e ∧ -1074 ≤ e ∧ u = m * 2 ^ (e + 1074).toNat

/-- 'x' is the whole number '±r'. -/
def Val (x : Nat) (neg : Bool) (r : Nat) : Prop := Fin x neg (r * U)

theorem N_zero (neg : Bool) : N neg 0 = if neg then 2 ^ 63 else 0 := by
  unfold N Format.nearest Format.word
  rw [if_pos rfl, weight_eq]

theorem read_word (neg : Bool) (g : Nat) (hg : g < 2 ^ 63) : D.read (D.word neg g) =
    if g < 2 ^ 52 then .number neg g (-1074) else if g < 2047 * 2 ^ 52 then .number neg (2 ^ 52 + g % 2 ^ 52) (-1074 + (g / 2 ^ 52 - 1 : Nat)) else if g = 2047 * 2 ^ 52 then .infinity neg else .nan neg (g - 2047 * 2 ^ 52) := by
  have h1 : D.word neg g / 2 ^ 63 % 2 = if neg then 1 else 0 := by
    unfold Format.word; rw [weight_eq]
    cases neg <;> simp <;> omega
  have h2 : D.word neg g % 2 ^ 63 = g := by
    unfold Format.word; rw [weight_eq]
    cases neg <;> simp <;> omega
  unfold Format.read
  simp only [weight_eq, binade_eq, inf_eq, least_eq, h1, h2]
  cases neg <;> rfl

theorem word_of (x : Nat) (hx : x < 2 ^ 64) : x = D.word (x / 2 ^ 63 % 2 == 1) (x % 2 ^ 63) := by
  unfold Format.word; rw [weight_eq]
  by_cases h : x < 2 ^ 63
  · have : x / 2 ^ 63 % 2 = 0 := by omega
    rw [this]; simp; omega
  · have : x / 2 ^ 63 % 2 = 1 := by omega
    rw [this]; simp; omega

/-- A finite word is the nearest to what it stands for. -/
theorem nearest_read {x : Nat} (hx : x < 2 ^ 64) {neg : Bool} {m : Nat} {e : Int} (h : D.read x = .number neg m e) : D.nearest neg m e = x := by
  have hw := word_of x hx
  generalize hn : (x / 2 ^ 63 % 2 == 1) = n at hw
  generalize hg : x % 2 ^ 63 = g at hw
  have hgl : g < 2 ^ 63 := by omega
  subst hw
  rw [read_word _ _ hgl] at h
  split at h
  · rename_i hs
    simp only [Datum.number.injEq] at h
    obtain ⟨rfl, rfl, rfl⟩ := h
    unfold Format.nearest
    split
    · rename_i h0; rw [h0]
    · rename_i h0
      have hl : g.log2 < 52 := (Nat.log2_lt h0).2 hs
      have em : max (-1074 + (g.log2 : Int) - (D.fractionBits : Int)) D.leastPlace = -1074 := by
        rw [least_eq, fraction_eq]; omega
      simp only [em]
      simp only [least_eq, inf_eq, binade_eq]
      have z : ((-1074 : Int) - -1074).toNat = 0 := by decide
      rw [z, Nat.shiftLeft_eq, Nat.pow_zero, Nat.mul_one, cut_zero, Nat.zero_mul, Nat.zero_add]
      congr 1; omega
  · rename_i hs
    split at h
    · rename_i hb
      simp only [Datum.number.injEq] at h
      obtain ⟨rfl, rfl, rfl⟩ := h
      have h0 : 2 ^ 52 + g % 2 ^ 52 ≠ 0 := by omega
      have hl : (2 ^ 52 + g % 2 ^ 52).log2 = 52 := (Nat.log2_eq_iff h0).2 ⟨by omega, by omega⟩
      unfold Format.nearest
      rw [if_neg h0]
      have em : max (-1074 + ((g / 2 ^ 52 - 1 : Nat) : Int) + ((2 ^ 52 + g % 2 ^ 52).log2 : Int) - (D.fractionBits : Int)) D.leastPlace = -1074 + ((g / 2 ^ 52 - 1 : Nat) : Int) := by
        rw [least_eq, fraction_eq, hl]; omega
      simp only [em]
      simp only [least_eq, inf_eq, binade_eq]
      have z : (-1074 + ((g / 2 ^ 52 - 1 : Nat) : Int) - (-1074 + ((g / 2 ^ 52 - 1 : Nat) : Int))).toNat = 0 := by omega
      have z2 : (-1074 + ((g / 2 ^ 52 - 1 : Nat) : Int) - -1074).toNat = g / 2 ^ 52 - 1 := by omega
      rw [z, z2, Nat.shiftLeft_eq, Nat.pow_zero, Nat.mul_one, cut_zero]
      congr 1; omega
    · split at h <;> cases h

theorem read_place {x : Nat} {neg : Bool} {m : Nat} {e : Int} (h : D.read x = .number neg m e) : -1074 ≤ e := by
  unfold Format.read at h
  simp only [weight_eq, binade_eq, inf_eq, least_eq] at h
  split at h
  · simp only [Datum.number.injEq] at h; omega
  · split at h
    · simp only [Datum.number.injEq] at h; omega
    · split at h <;> cases h

theorem fin_of_read {x : Nat} {neg : Bool} {m : Nat} {e : Int} (h : D.read x = .number neg m e) : Fin x neg (m * 2 ^ (e + 1074).toNat) := ⟨m, e, h, read_place h, rfl⟩

/-- Nothing above the least place is lost: in units of it. -/
theorem nearest_units (neg : Bool) (m : Nat) (e : Int) (he : -1074 ≤ e) : D.nearest neg m e = D.nearest neg (m * 2 ^ (e + 1074).toNat) (-1074) := by
  by_cases h : m = 0
  · subst h; rw [Nat.zero_mul]; unfold Format.nearest; rw [if_pos rfl, if_pos rfl]
  · rw [← nearest_scale neg m (e + 1074).toNat e h]
    congr 1; omega

theorem nearest_units_whole (neg : Bool) (r : Nat) : D.nearest neg (r * U) (-1074) = N neg r := by
  have := nearest_units neg r 0 (by omega)
  rw [show ((0 : Int) + 1074).toNat = K by rw [K_eq]; rfl] at this
  unfold N; rw [this]; rfl

theorem nearest_val (neg : Bool) (m r : Nat) (e : Int) (he : -1074 ≤ e) (h : m * 2 ^ (e + 1074).toNat = r * U) : D.nearest neg m e = N neg r := by
  rw [nearest_units neg m e he, h, nearest_units_whole]

/-- A word that is a whole number is that number's word. -/
theorem val_word {x : Nat} (hx : x < 2 ^ 64) {neg : Bool} {r : Nat} (h : Val x neg r) : x = N neg r := by
  obtain ⟨m, e, h1, h2, h3⟩ := h
  rw [← nearest_read hx h1, nearest_val neg m r e h2 h3.symm]

theorem N_lt (neg : Bool) (r : Nat) : N neg r < 2 ^ 64 := D.nearest_lt neg r 0

theorem fin_unique {x : Nat} {s t : Bool} {u v : Nat} (h : Fin x s u) (h' : Fin x t v) : s = t ∧ u = v := by
  obtain ⟨m, e, h1, _, h3⟩ := h
  obtain ⟨m', e', h1', _, h3'⟩ := h'
  rw [h1, Datum.number.injEq] at h1'
  obtain ⟨rfl, rfl, rfl⟩ := h1'
  exact ⟨rfl, h3.trans h3'.symm⟩

theorem val_unique {x : Nat} {s t : Bool} {u v : Nat} (h : Val x s u) (h' : Val x t v) : s = t ∧ u = v := by
  obtain ⟨a, b⟩ := fin_unique h h'
  exact ⟨a, Nat.eq_of_mul_eq_mul_right U_pos b⟩

theorem word_fin (neg : Bool) (E k : Nat) (h1 : 2 ^ 52 ≤ k) (h2 : k ≤ 2 ^ 53) (hE : E ≤ 2000) : Fin (D.word neg (E * 2 ^ 52 + k)) neg (k * 2 ^ E) := by
  have hr := read_word neg (E * 2 ^ 52 + k) (by omega)
  rw [if_neg (by omega), if_pos (by omega)] at hr
  refine ⟨_, _, hr, by omega, ?_⟩
  by_cases c : k = 2 ^ 53
  · subst c
    have a : (E * 2 ^ 52 + 2 ^ 53) / 2 ^ 52 - 1 = E + 1 := by omega
    have b : (E * 2 ^ 52 + 2 ^ 53) % 2 ^ 52 = 0 := by omega
    have c : (-1074 + ((E + 1 : Nat) : Int) + 1074).toNat = E + 1 := by omega
    rw [a, b, c, Nat.pow_succ 2 E]; omega
  · have a : (E * 2 ^ 52 + k) / 2 ^ 52 - 1 = E := by omega
    have b : 2 ^ 52 + (E * 2 ^ 52 + k) % 2 ^ 52 = k := by omega
    have c : (-1074 + (E : Int) + 1074).toNat = E := by omega
    rw [a, b, c]

theorem val_zero (neg : Bool) : Val (N neg 0) neg 0 := by
  have e : N neg 0 = D.word neg 0 := by rw [N_zero]; unfold Format.word; rw [weight_eq]
  have hr := read_word neg 0 (by omega)
  rw [if_pos (by omega)] at hr
  rw [e]
  exact ⟨0, -1074, hr, by omega, by rw [Nat.zero_mul, Nat.zero_mul]⟩

/-- To which whole number a whole number is rounded: itself below 2^53; one near it beyond. -/
theorem val_N (neg : Bool) (r : Nat) (h : r < 2 ^ 63) : ∃ r', Val (N neg r) neg r' ∧ r' ≤ r + 2 ^ 10 ∧ r ≤ r' + 2 ^ 10 ∧ (r < 2 ^ 53 → r' = r) := by
  by_cases h0 : r = 0
  · subst h0; exact ⟨0, val_zero neg, by omega, by omega, fun _ => rfl⟩
  have hlo := Nat.log2_self_le h0
  have hhi := @Nat.lt_log2_self r
  have hL : r.log2 < 63 := (Nat.log2_lt h0).2 h
  generalize hLe : r.log2 = L at hlo hhi hL
  have em : max ((0 : Int) + (L : Int) - (D.fractionBits : Int)) D.leastPlace = (L : Int) - 52 := by
    rw [least_eq, fraction_eq]; omega
  have eN : N neg r = D.word neg (min (((L : Int) - 52 - D.leastPlace).toNat * D.binade + Toward.even.cut neg (r <<< ((0 : Int) - ((L : Int) - 52)).toNat) ((L : Int) - 52 - 0).toNat) D.infRung) := by
    unfold N Format.nearest
    rw [if_neg h0, hLe]
    simp only [em]
  have eP : ((L : Int) - 52 - D.leastPlace).toNat = L + 1022 := by rw [least_eq]; omega
  rw [eP, binade_eq, inf_eq] at eN
  by_cases c : L ≤ 52
  · have a1 : ((0 : Int) - ((L : Int) - 52)).toNat = 52 - L := by omega
    have a2 : ((L : Int) - 52 - 0).toNat = 0 := by omega
    rw [a1, a2, cut_zero, Nat.shiftLeft_eq] at eN
    have k1 : 2 ^ 52 ≤ r * 2 ^ (52 - L) := by
      have : 2 ^ 52 = 2 ^ L * 2 ^ (52 - L) := by rw [← Nat.pow_add]; congr 1; omega
      rw [this]; exact Nat.mul_le_mul_right _ hlo
    have k2 : r * 2 ^ (52 - L) < 2 ^ 53 := by
      have : 2 ^ 53 = 2 ^ (L + 1) * 2 ^ (52 - L) := by rw [← Nat.pow_add]; congr 1; omega
      rw [this]; exact Nat.mul_lt_mul_of_pos_right hhi (Nat.two_pow_pos _)
    generalize hk : r * 2 ^ (52 - L) = k at k1 k2 eN
    rw [Nat.min_eq_left (by omega)] at eN
    refine ⟨r, ?_, by omega, by omega, fun _ => rfl⟩
    have := word_fin neg (L + 1022) k k1 (Nat.le_of_lt k2) (by omega)
    rw [← eN] at this
    have e : k * 2 ^ (L + 1022) = r * U := by
      rw [← hk, Nat.mul_assoc, ← Nat.pow_add, show 52 - L + (L + 1022) = 0 + K by rw [K_eq]; omega, pow_U, Nat.pow_zero, Nat.one_mul]
    rw [e] at this
    exact this
  · have a1 : ((0 : Int) - ((L : Int) - 52)).toNat = 0 := by omega
    obtain ⟨d, rfl⟩ : ∃ d, L = d + 52 := ⟨L - 52, by omega⟩
    have a2 : (((d + 52 : Nat) : Int) - 52 - 0).toNat = d := by omega
    rw [a1, a2, Nat.shiftLeft_eq, Nat.pow_zero, Nat.mul_one] at eN
    have hd : 2 ^ d ≤ 2 ^ 10 := Nat.pow_le_pow_right (by omega) (by omega)
    have hdp : 0 < 2 ^ d := Nat.two_pow_pos d
    have hcut : Toward.even.cut neg r d = r / 2 ^ d ∨ Toward.even.cut neg r d = r / 2 ^ d + 1 := by
      unfold Toward.cut
      rw [hLe, Nat.min_eq_left (by omega), one_shift]
      simp only
      generalize (decide (2 ^ d < 2 * (r % 2 ^ d)) || 2 ^ d == 2 * (r % 2 ^ d) && r / 2 ^ d % 2 == 1) = b
      cases b
      · left; rfl
      · right; rfl
    have l1 : 2 ^ 52 ≤ r / 2 ^ d := by
      rw [Nat.le_div_iff_mul_le hdp, ← Nat.pow_add]
      have : 52 + d = d + 52 := by omega
      rw [this]; exact hlo
    have l2 : r / 2 ^ d < 2 ^ 53 := by
      rw [Nat.div_lt_iff_lt_mul hdp, ← Nat.pow_add]
      have : 53 + d = d + 52 + 1 := by omega
      rw [this]; exact hhi
    have l3 := Nat.div_add_mod r (2 ^ d)
    have l4 := Nat.mod_lt r hdp
    generalize hk : Toward.even.cut neg r d = k at hcut eN
    rw [Nat.min_eq_left (by omega)] at eN
    have := word_fin neg (d + 52 + 1022) k (by omega) (by omega) (by omega)
    rw [← eN] at this
    have e : k * 2 ^ (d + 52 + 1022) = (k * 2 ^ d) * U := by
      rw [show d + 52 + 1022 = d + K by rw [K_eq], pow_U, Nat.mul_assoc]
    rw [e] at this
    refine ⟨k * 2 ^ d, this, ?_, ?_, ?_⟩
    · rcases hcut with e | e
      · rw [e, Nat.mul_comm]; omega
      · rw [e, Nat.add_mul, Nat.mul_comm]; omega
    · rcases hcut with e | e
      · rw [e, Nat.mul_comm]; omega
      · rw [e, Nat.add_mul, Nat.mul_comm]; omega
    · intro hr
      have : 2 ^ 53 ≤ 2 ^ (d + 52) := Nat.pow_le_pow_right (by omega) (by omega)
      omega

theorem val_exact (neg : Bool) (r : Nat) (h : r < 2 ^ 53) : Val (N neg r) neg r := by
  obtain ⟨r', h1, _, _, h4⟩ := val_N neg r (by omega)
  rw [h4 h] at h1; exact h1

/-- a whole number by its sign and its size -/
def sgn (s : Bool) (r : Nat) : Int := if s then -(r : Int) else r

theorem natAbs_sgn (b : Bool) (k : Nat) : (sgn b k).natAbs = k := by cases b <;> simp [sgn]

theorem signed_eq (s : Bool) (m up : Nat) : signed s m up = sgn s (m * 2 ^ up) := by
  unfold signed sgn; rw [Nat.shiftLeft_eq]

theorem sgn_mul (s : Bool) (r k : Nat) : sgn s (r * k) = sgn s r * (k : Int) := by
  unfold sgn; cases s
  · simp [Int.natCast_mul]
  · simp [Int.natCast_mul, Int.neg_mul]

theorem sgn_natAbs (n : Int) : sgn (decide (n < 0)) n.natAbs = n := by
  unfold sgn
  by_cases h : n < 0
  · simp [h]; omega
  · simp [h]; omega

theorem split_units {m : Nat} {i base : Int} {u : Nat} (h1 : base ≤ i) (h2 : -1074 ≤ base) (hu : u = m * 2 ^ (i + 1074).toNat) (s : Bool) : signed s m (i - base).toNat * ((2 ^ (base + 1074).toNat : Nat) : Int) = sgn s u := by
  rw [signed_eq, ← sgn_mul, hu, Nat.mul_assoc, ← Nat.pow_add]
  congr 3; omega

theorem order_fin {x y : Nat} {s t : Bool} {u v : Nat} (hx : Fin x s u) (hy : Fin y t v) : D.order x y = some (compare (sgn s u) (sgn t v)) := by
  obtain ⟨m, i, h1, h2, h3⟩ := hx
  obtain ⟨n, j, g1, g2, g3⟩ := hy
  unfold Format.order
  rw [h1, g1]
  unfold Datum.order
  simp only
  rw [← split_units (base := min i j) (by omega) (by omega) h3 s, ← split_units (base := min i j) (by omega) (by omega) g3 t]
  generalize signed s m (i - min i j).toNat = a
  generalize signed t n (j - min i j).toNat = b
  have hp : (0 : Int) < ((2 ^ (min i j + 1074).toNat : Nat) : Int) := by
    have := Nat.two_pow_pos (min i j + 1074).toNat
    omega
  generalize ((2 ^ (min i j + 1074).toNat : Nat) : Int) = p at hp
  congr 1
  simp only [compare, compareOfLessAndEq]
  have e1 : (a * p < b * p) ↔ a < b := Int.mul_lt_mul_right hp
  have e2 : (a * p = b * p) ↔ a = b := Int.mul_eq_mul_right_iff (by omega)
  simp only [e1, e2]

theorem sum_units {m n : Nat} {i j : Int} {s t : Bool} {u v w : Nat} (h2 : -1074 ≤ i) (h3 : u = m * 2 ^ (i + 1074).toNat) (g2 : -1074 ≤ j) (g3 : v = n * 2 ^ (j + 1074).toNat)
    (total : Int) (ht : sgn s u + sgn t v = total * (U : Int)) (hw : w = total.natAbs) :
    ((Datum.number s m i).sum (Datum.number t n j)).map D.write = some (N (if total = 0 then s && t else decide (total < 0)) w) := by
  unfold Datum.sum
  simp only [Option.map_some, Option.some.injEq]
  have a := split_units (base := min i j) (by omega) (by omega) h3 s
  have b := split_units (base := min i j) (by omega) (by omega) g3 t
  rw [← a, ← b, ← Int.add_mul] at ht
  generalize signed s m (i - min i j).toNat + signed t n (j - min i j).toNat = T at ht
  have hp : 0 < 2 ^ (min i j + 1074).toNat := Nat.two_pow_pos _
  have hq : 0 < U := U_pos
  have hmin : -1074 ≤ min i j := by omega
  have hval : D.write (Datum.number (if T = 0 then s && t else decide (T < 0)) T.natAbs (min i j)) = N (if T = 0 then s && t else decide (T < 0)) w := by
    unfold Format.write
    refine nearest_val _ _ _ _ hmin ?_
    have := congrArg Int.natAbs ht
    rw [Int.natAbs_mul, Int.natAbs_mul, Int.natAbs_natCast, Int.natAbs_natCast] at this
    rw [this, hw]
  rw [hval]
  generalize 2 ^ (min i j + 1074).toNat = p at ht hp
  generalize U = q at ht hq
  have e0 : (T = 0) ↔ (total = 0) := by
    constructor
    · intro e; rw [e, Int.zero_mul] at ht
      rcases Int.mul_eq_zero.1 ht.symm with e | e
      · exact e
      · omega
    · intro e; rw [e, Int.zero_mul] at ht
      rcases Int.mul_eq_zero.1 ht with e | e
      · exact e
      · omega
  have e1 : (T < 0) ↔ (total < 0) := by
    have l1 : T * (p : Int) < 0 ↔ T < 0 := by
      have := @Int.mul_lt_mul_right (p : Int) T 0 (by omega)
      rw [Int.zero_mul] at this; exact this
    have l2 : total * (q : Int) < 0 ↔ total < 0 := by
      have := @Int.mul_lt_mul_right (q : Int) total 0 (by omega)
      rw [Int.zero_mul] at this; exact this
    rw [← l1, ← l2, ht]
  simp only [e0, e1]

theorem add_val {x y : Nat} {s t : Bool} {r q : Nat} (hx : Val x s r) (hy : Val y t q) :
    D.add x y = some (N (if sgn s r + sgn t q = 0 then s && t else decide (sgn s r + sgn t q < 0)) (sgn s r + sgn t q).natAbs) := by
  obtain ⟨m, i, h1, h2, h3⟩ := hx
  obtain ⟨n, j, g1, g2, g3⟩ := hy
  unfold Format.add
  rw [h1, g1]
  exact sum_units h2 h3 g2 g3 _ (by rw [sgn_mul, sgn_mul, ← Int.add_mul]) rfl

theorem sub_val {x y : Nat} {s t : Bool} {r q : Nat} (hx : Val x s r) (hy : Val y t q) :
    D.sub x y = some (N (if sgn s r - sgn t q = 0 then s && !t else decide (sgn s r - sgn t q < 0)) (sgn s r - sgn t q).natAbs) := by
  obtain ⟨m, i, h1, h2, h3⟩ := hx
  obtain ⟨n, j, g1, g2, g3⟩ := hy
  unfold Format.sub
  rw [h1, g1]
  have e : sgn s r - sgn t q = sgn s r + sgn (!t) q := by cases t <;> simp [sgn] <;> omega
  exact sum_units (t := !t) h2 h3 g2 g3 _ (by rw [sgn_mul, sgn_mul, ← Int.add_mul, e]) rfl

theorem mul_val {x y : Nat} {s t : Bool} {r q : Nat} (hx : Val x s r) (hy : Val y t q) : D.mul x y = some (N (s ^^ t) (r * q)) := by
  obtain ⟨m, i, h1, h2, h3⟩ := hx
  obtain ⟨n, j, g1, g2, g3⟩ := hy
  unfold Format.mul
  rw [h1, g1]
  unfold Datum.product Format.write N
  simp only [Option.map_some, Option.some.injEq]
  have key : m * n * 2 ^ (i + j + 2148).toNat = r * q * 2 ^ (K + K) := by
    have e1 : (i + j + 2148).toNat = (i + 1074).toNat + (j + 1074).toNat := by omega
    have e2 : 2 ^ (K + K) = U * U := pow_U K
    rw [e1, Nat.pow_add, e2, Nat.mul_mul_mul_comm, ← h3, ← g3, Nat.mul_mul_mul_comm]
  by_cases h0 : m * n = 0
  · have : r * q = 0 := by
      rw [h0, Nat.zero_mul] at key
      rcases Nat.mul_eq_zero.1 key.symm with e | e
      · exact e
      · have := Nat.two_pow_pos (K + K)
        rw [e] at this
        exact absurd this (Nat.lt_irrefl 0)
    rw [h0, this]; unfold Format.nearest; rw [if_pos rfl, if_pos rfl]
  · have h0' : r * q ≠ 0 := by
      intro e
      rw [e, Nat.zero_mul] at key
      rcases Nat.mul_eq_zero.1 key with e | e
      · exact h0 e
      · have := Nat.two_pow_pos (i + j + 2148).toNat
        omega
    have a := nearest_scale (s ^^ t) (m * n) (i + j + 2148).toNat (i + j) h0
    have b := nearest_scale (s ^^ t) (r * q) (K + K) 0 h0'
    rw [← a, ← b, key]
    congr 1; rw [K_eq]; omega

/-- 'float64(n)' -/
def F (n : Int) : Nat := N (decide (n < 0)) n.natAbs

theorem nearest_F (n : Int) : FloatKind.f64.nearest n = F n := rfl
theorem F_lt (n : Int) : F n < 2 ^ 64 := N_lt _ _
theorem val_F (n : Int) (h : n.natAbs < 2 ^ 53) : Val (F n) (decide (n < 0)) n.natAbs := val_exact _ _ h

theorem F_inj {a b : Int} (ha : a.natAbs < 2 ^ 53) (hb : b.natAbs < 2 ^ 53) (h : F a = F b) : a = b := by
  have h1 := val_F a ha
  rw [h] at h1
  obtain ⟨e1, e2⟩ := val_unique h1 (val_F b hb)
  rw [← sgn_natAbs a, ← sgn_natAbs b, e1, e2]

theorem val_to_F {x : Nat} (hx : x < 2 ^ 64) {s : Bool} {r : Nat} (h : Val x s r) (h0 : r ≠ 0 ∨ s = false) : x = F (sgn s r) := by
  rw [val_word hx h]
  unfold F
  have e1 : (sgn s r).natAbs = r := by cases s <;> simp [sgn]
  have e2 : decide (sgn s r < 0) = s := by
    cases s
    · simp [sgn]
    · have : r ≠ 0 := by rcases h0 with h | h; exact h; cases h
      simp [sgn]; omega
  rw [e1, e2]

theorem add_F (a b : Int) (ha : a.natAbs < 2 ^ 53) (hb : b.natAbs < 2 ^ 53) : D.add (F a) (F b) = some (F (a + b)) := by
  rw [add_val (val_F a ha) (val_F b hb), sgn_natAbs, sgn_natAbs]
  unfold F
  congr 2
  split
  · rename_i h
    by_cases h1 : a < 0
    · have : ¬ b < 0 := by omega
      simp [h1, this]; omega
    · simp [h1]; omega
  · rfl

theorem sub_F (a b : Int) (ha : a.natAbs < 2 ^ 53) (hb : b.natAbs < 2 ^ 53) : D.sub (F a) (F b) = some (F (a - b)) := by
  rw [sub_val (val_F a ha) (val_F b hb), sgn_natAbs, sgn_natAbs]
  unfold F
  congr 2
  split
  · rename_i h
    have : b = a := by omega
    subst this
    by_cases h1 : b < 0
    · simp [h1]
    · simp [h1]
  · rfl

/-- A sum with +0 has no sign of its own. -/
theorem add_zero_val {x : Nat} {s : Bool} {r : Nat} (h : Val x s r) : D.add x (F 0) = some (F (sgn s r)) := by
  rw [add_val h (val_F 0 (by decide))]
  have : sgn (decide ((0 : Int) < 0)) (0 : Int).natAbs = 0 := by decide
  rw [this, Int.add_zero]
  unfold F
  congr 2
  split
  · rename_i h; rw [h]; cases s <;> rfl
  · rfl

theorem order_F (a b : Int) (ha : a.natAbs < 2 ^ 53) (hb : b.natAbs < 2 ^ 53) : D.order (F a) (F b) = some (compare a b) := by
  rw [order_fin (val_F a ha) (val_F b hb), sgn_mul, sgn_mul, sgn_natAbs, sgn_natAbs]
  have hq : 0 < U := U_pos
  generalize U = p at hq
  congr 1
  simp only [compare, compareOfLessAndEq]
  have e1 : (a * (p : Int) < b * p) ↔ a < b := Int.mul_lt_mul_right (by omega)
  have e2 : (a * (p : Int) = b * p) ↔ a = b := Int.mul_eq_mul_right_iff (by omega)
  simp only [e1, e2]

/-! What is whole. -/
/-- the limit of a part -/
def top : Int := 1099511627776

/-- 'int64(x)' of a finite x that is not too great: cut towards nought. -/
theorem toInt_fin {x : Nat} {s : Bool} {u : Nat} (h : Fin x s u) : (FloatKind.f64.decode x).toInt .zero = some (sgn s (u / U)) := by
  obtain ⟨m, e, h1, h2, h3⟩ := h
  have hd : FloatKind.f64.decode x = .number s m e := h1
  rw [hd]
  unfold Datum.toInt Datum.integral
  simp only [Option.some.injEq]
  rw [signed_eq, Nat.pow_zero, Nat.mul_one]
  congr 1
  unfold Toward.cut
  simp only [Bool.toNat_false, Nat.add_zero, Nat.shiftLeft_eq, Nat.one_mul]
  rw [h3]
  by_cases c : 0 ≤ e
  · have e1 : (-e).toNat = 0 := by omega
    have e2 : (e + 1074).toNat = e.toNat + K := by rw [K_eq]; omega
    rw [e1, e2, pow_U, ← Nat.mul_assoc, Nat.mul_div_cancel _ U_pos, Nat.zero_min, Nat.pow_zero, Nat.div_one]
  · have e1 : e.toNat = 0 := by omega
    obtain ⟨d, hd⟩ : ∃ d : Nat, (-e).toNat = d := ⟨_, rfl⟩
    have e3 : U = 2 ^ d * 2 ^ (e + 1074).toNat := by
      unfold U; rw [← Nat.pow_add]; congr 1; rw [K_eq]; omega
    rw [e1, hd, e3, Nat.pow_zero, Nat.mul_one, Nat.mul_div_mul_right _ _ (Nat.two_pow_pos _)]
    by_cases c2 : d ≤ m.log2 + 2
    · rw [Nat.min_eq_left c2]
    · rw [Nat.min_eq_right (by omega)]
      have a : m < 2 ^ (m.log2 + 2) := Nat.lt_trans (@Nat.lt_log2_self m) (Nat.pow_lt_pow_right (by omega) (by omega))
      have b : m < 2 ^ d := Nat.lt_of_lt_of_le a (Nat.pow_le_pow_right (by omega) (by omega))
      rw [Nat.div_eq_of_lt a, Nat.div_eq_of_lt b]

/-- the sizes that 'wholePart' and 'part' let through -/
def inRange (x : Nat) : Bool := (D.order (F (-top)) x == some .lt || D.order (F (-top)) x == some .eq) && (D.order x (F top) == some .lt || D.order x (F top) == some .eq)

/-- 'x' is a whole number from -2^40 to 2^40, without a sign at nought. -/
def IsW (x : Nat) : Prop := ∃ n : Int, -top ≤ n ∧ n ≤ top ∧ x = F n

theorem small_53 {n : Int} (h1 : -top ≤ n) (h2 : n ≤ top) : n.natAbs < 2 ^ 53 := by unfold top at h1 h2; omega

theorem compare_int (a b : Int) : (compare a b == .lt || compare a b == .eq) = decide (a ≤ b) := by
  simp only [compare, compareOfLessAndEq]
  by_cases h1 : a < b
  · simp [h1]; omega
  · by_cases h2 : a = b
    · simp [h2]
    · simp [h1, h2]; omega

theorem opt_beq (a b : Ordering) : (some a == some b) = (a == b) := by cases a <;> cases b <;> rfl

theorem le_F {a b : Int} (ha : a.natAbs < 2 ^ 53) (hb : b.natAbs < 2 ^ 53) : (D.order (F a) (F b) == some .lt || D.order (F a) (F b) == some .eq) = decide (a ≤ b) := by
  rw [order_F a b ha hb, opt_beq, opt_beq, compare_int]

theorem eq_F {a b : Int} (ha : a.natAbs < 2 ^ 53) (hb : b.natAbs < 2 ^ 53) : (D.order (F a) (F b) == some .eq) = decide (a = b) := by
  rw [order_F a b ha hb, opt_beq]
  simp only [compare, compareOfLessAndEq]
  by_cases h1 : a < b
  · have : a ≠ b := by omega
    simp [h1, this]
  · by_cases h2 : a = b
    · simp [h2]
    · simp [h1, h2]

theorem inRange_F {n : Int} (h1 : -top ≤ n) (h2 : n ≤ top) : inRange (F n) = true := by
  unfold inRange
  rw [le_F (by decide) (small_53 h1 h2), le_F (small_53 h1 h2) (by decide)]
  simp [h1, h2]

theorem top_fin : Fin (F top) false (1099511627776 * U) := val_F top (by decide)
theorem bottom_fin : Fin (F (-top)) true (1099511627776 * U) := val_F (-top) (by decide)

/-- What is let through is finite, and its whole part is small. -/
theorem inRange_fin {x : Nat} (h : inRange x = true) : ∃ s u, Fin x s u ∧ u ≤ 1099511627776 * U := by
  unfold inRange at h
  rw [Bool.and_eq_true] at h
  obtain ⟨h1, h2⟩ := h
  cases hr : D.read x with
  | nan n f =>
    have e : D.order x (F top) = none := by unfold Format.order; rw [hr]; rfl
    rw [e] at h2; cases h2
  | infinity s =>
    exfalso
    obtain ⟨m, e, g1, _, _⟩ := top_fin
    obtain ⟨m', e', g1', _, _⟩ := bottom_fin
    have e1 : D.order x (F top) = some (if s then .lt else .gt) := by unfold Format.order; rw [hr, g1]; rfl
    have e2 : D.order (F (-top)) x = some (if s then .gt else .lt) := by unfold Format.order; rw [hr, g1']; rfl
    rw [e1] at h2
    rw [e2] at h1
    cases s
    · exact absurd h2 (by decide)
    · exact absurd h1 (by decide)
  | number s m e =>
    have hf := fin_of_read hr
    refine ⟨s, _, hf, ?_⟩
    generalize m * 2 ^ (e + 1074).toNat = u at hf
    rw [order_fin hf top_fin, opt_beq, opt_beq, compare_int] at h2
    rw [order_fin bottom_fin hf, opt_beq, opt_beq, compare_int] at h1
    have h1' := of_decide_eq_true h1
    have h2' := of_decide_eq_true h2
    clear h1 h2 hf hr
    generalize 1099511627776 * U = q at h1' h2'
    cases s <;> simp [sgn] at h1' h2' <;> omega

theorem minus_nought : Val (2 ^ 63) true 0 := by
  have := val_zero true
  rw [N_zero, if_pos rfl] at this
  exact this

theorem not_whole_minus : ¬ IsW (2 ^ 63) := by
  rintro ⟨n, h1, h2, h3⟩
  have hv := val_F n (small_53 h1 h2)
  rw [← h3] at hv
  obtain ⟨e1, e2⟩ := val_unique hv minus_nought
  have : n = 0 := by omega
  subst this
  cases e1

theorem not_whole_of_range {x : Nat} (h : inRange x = false) : ¬ IsW x := by
  rintro ⟨n, h1, h2, rfl⟩
  rw [inRange_F h1 h2] at h
  cases h

theorem not_whole_of_val {x : Nat} {s : Bool} {r : Nat} (h : Val x s r) (hr : 1099511627776 < r) : ¬ IsW x := by
  rintro ⟨n, h1, h2, rfl⟩
  obtain ⟨_, e⟩ := val_unique h (val_F n (small_53 h1 h2))
  unfold top at h1 h2
  omega

/-- What is let through: its whole part, and whether it is that whole part. -/
theorem cases_range {x : Nat} (hx : x < 2 ^ 64) (h : inRange x = true) : ∃ T : Int, -top ≤ T ∧ T ≤ top ∧ (FloatKind.f64.decode x).toInt .zero = some T ∧
    (x = F T ∨ (T = 0 ∧ x = 2 ^ 63) ∨ (¬ IsW x ∧ (D.order (F T) x == some .eq) = false)) := by
  obtain ⟨s, u, hf, hu⟩ := inRange_fin h
  have hq : u / U ≤ 1099511627776 := by
    have := Nat.div_le_div_right (c := U) hu
    rwa [Nat.mul_div_cancel _ U_pos] at this
  have hT : -top ≤ sgn s (u / U) ∧ sgn s (u / U) ≤ top := by
    generalize u / U = q at hq
    unfold sgn top; cases s <;> simp <;> omega
  refine ⟨sgn s (u / U), hT.1, hT.2, toInt_fin hf, ?_⟩
  have hFT := val_F _ (small_53 hT.1 hT.2)
  have habs : (sgn s (u / U)).natAbs = u / U := natAbs_sgn _ _
  by_cases hd : U ∣ u
  · obtain ⟨r, hr⟩ := hd
    have hr' : u = r * U := by rw [hr, Nat.mul_comm]
    have e : u / U = r := by rw [hr', Nat.mul_div_cancel _ U_pos]
    have hv : Val x s r := by unfold Val; rw [← hr']; exact hf
    rw [e]
    by_cases h0 : r ≠ 0 ∨ s = false
    · exact .inl (val_to_F hx hv h0)
    · have h1 : r = 0 ∧ s = true := by
        refine ⟨?_, ?_⟩
        · by_cases c : r = 0
          · exact c
          · exact absurd (.inl c) h0
        · cases s
          · exact absurd (.inr rfl) h0
          · rfl
      obtain ⟨rfl, rfl⟩ := h1
      refine .inr (.inl ⟨rfl, ?_⟩)
      rw [val_word hx hv, N_zero, if_pos rfl]
  · refine .inr (.inr ⟨?_, ?_⟩)
    · rintro ⟨n, h1, h2, rfl⟩
      obtain ⟨_, e⟩ := fin_unique hf (val_F n (small_53 h1 h2))
      exact hd ⟨n.natAbs, by rw [e, Nat.mul_comm]⟩
    · rw [order_fin hFT hf, opt_beq]
      rw [habs]
      have hne : sgn (decide (sgn s (u / U) < 0)) (u / U * U) ≠ sgn s u := by
        intro e
        have := congrArg Int.natAbs e
        rw [natAbs_sgn, natAbs_sgn] at this
        exact hd ⟨u / U, by rw [Nat.mul_comm]; exact this.symm⟩
      generalize sgn (decide (sgn s (u / U) < 0)) (u / U * U) = a at hne
      generalize sgn s u = b at hne
      simp only [compare, compareOfLessAndEq, hne, if_false]
      by_cases c : a < b
      · simp [c]
      · simp [c]

/-! The constants that the program names, by their words. -/
theorem c_top : F top = 4787326403894837248 := by decide +kernel
theorem c_bottom : F (-top) = 14010698440749613056 := by decide +kernel
theorem c_zero : F 0 = 0 := by decide +kernel
theorem c_one : F 1 = 4607182418800017408 := by decide +kernel
theorem c_minus_one : F (-1) = 13830554455654793216 := by decide +kernel

/-- 'IsW' as a Bool -/
noncomputable def wh (x : Nat) : Bool := @decide (IsW x) (Classical.propDecidable _)
theorem wh_yes {x : Nat} (h : IsW x) : wh x = true := by unfold wh; simp [h]
theorem wh_no {x : Nat} (h : ¬ IsW x) : wh x = false := by unfold wh; simp [h]
theorem wh_F {n : Int} (h1 : -top ≤ n) (h2 : n ≤ top) : wh (F n) = true := wh_yes ⟨n, h1, h2, rfl⟩
theorem of_wh {x : Nat} (h : wh x = true) : ∃ n : Int, -top ≤ n ∧ n ≤ top ∧ x = F n := by
  unfold wh at h; exact @of_decide_eq_true _ (Classical.propDecidable _) h

end Go.Proofs.Yteadkcekoccmdaa.Flo
