/-
  What the program's own calls reckon, against what a thing is: plain facts. No condition.
-/
import Derived.Test.YtglibcmlophieaaIt
import Derived.Test.YtglibcmlophieaaIa
namespace Go.Proofs.Ytglibcmlophieaa

/-! ### which may be -/
def Tng.kin (t : Tng) : Tng :=
  if t.ty = 1 then { Tng.of 1 with size := t.size, used := t.used }
  else if t.ty = 2 then { Tng.of 2 with bits := t.bits, base := t.base }
  else if t.ty = 3 then (if t.full = true then { Tng.of 3 with full := true, word := t.word, badge := t.badge, frm := t.frm } else Tng.of 3)
  else if t.ty = 4 then { Tng.of 4 with word := t.word }
  else if t.ty = 5 then { Tng.of 5 with d0 := t.d0, d1 := t.d1, d2 := t.d2, d3 := t.d3 }
  else Tng.of 0
def Tng.fitp (t : Tng) : Bool :=
  if t.ty = 1 then inr3 t.size 1 4096 && inr3 t.used 0 t.size
  else if t.ty = 2 then inr3 t.bits 1 4 && inr3 t.base 0 (96 - tw2 t.bits)
  else inr3 t.badge 0 65535 && inr3 t.frm 0 96
theorem good_code (t : Tng) : t.good = (t.eq t.kin && t.fitp) := by
  rw [Bool.eq_iff_iff, tng_good, Bool.and_eq_true, Tng.eq_iff]
  constructor
  · intro h
    cases h <;> simp_all [Tng.kin, Tng.fitp, Tng.of, inr3]
  · rintro ⟨h2, h1⟩
    unfold Tng.fitp at h1
    unfold Tng.kin at h2
    by_cases k1 : t.ty = 1
    · rw [if_pos k1] at h1 h2
      rw [Bool.and_eq_true, inr3_iff, inr3_iff] at h1
      rw [h2]
      exact .room _ _ h1.1.1 h1.1.2 h1.2.1 h1.2.2
    rw [if_neg k1] at h1 h2
    by_cases k2 : t.ty = 2
    · rw [if_pos k2] at h1 h2
      rw [Bool.and_eq_true, inr3_iff, inr3_iff] at h1
      rw [h2]
      exact .node _ _ h1.1.1 h1.1.2 h1.2.1 h1.2.2
    rw [if_neg k2] at h1 h2
    rw [Bool.and_eq_true, inr3_iff, inr3_iff] at h1
    by_cases k3 : t.ty = 3
    · rw [if_pos k3] at h2
      by_cases kf : t.full = true
      · rw [if_pos kf] at h2
        rw [h2]
        exact .full _ _ _ h1.1.1 h1.1.2 h1.2.1 h1.2.2
      · rw [if_neg kf] at h2
        rw [h2]
        exact .mail
    rw [if_neg k3] at h2
    by_cases k4 : t.ty = 4
    · rw [if_pos k4] at h2
      rw [h2]
      exact .bell _
    rw [if_neg k4] at h2
    by_cases k5 : t.ty = 5
    · rw [if_pos k5] at h2
      rw [h2]
      exact .leaf _ _ _ _
    rw [if_neg k5] at h2
    rw [h2]
    exact .none

/-! ### its fields in a word -/
def smallf : List Fd := [⟨0, 8⟩, ⟨8, 8⟩, ⟨16, 8⟩, ⟨24, 1⟩, ⟨32, 8⟩]
def largef : List Fd := [⟨0, 16⟩, ⟨16, 16⟩, ⟨32, 16⟩]
def sumS (a b c d e : Nat) : Nat := a + b * 256 + c * 65536 + d * 16777216 + e * 4294967296
def sumL (a b c : Nat) : Nat := a + b * 65536 + c * 4294967296
theorem or_at {w v f g : Nat} (h : w < 2 ^ f) (hf : 2 ^ f = g) : w ||| v * 2 ^ f = w + v * g := by
  rw [or_sum h, Nat.mul_comm, hf]
theorem put_small {a b c d e : Nat} (ha : a < 256) (hb : b < 256) (hc : c < 256) (hd : d < 2) (he : e < 256) : put smallf [a, b, c, d, e] = some (sumS a b c d e) := by
  rw [put, if_pos ⟨by decide +kernel, rfl⟩]
  unfold smallf sumS
  simp only [putFrom]
  rw [if_pos (show a < 2 ^ (8 : Int).toNat from ha), if_pos (show b < 2 ^ (8 : Int).toNat from hb), if_pos (show c < 2 ^ (8 : Int).toNat from hc), if_pos (show d < 2 ^ (1 : Int).toNat from hd), if_pos (show e < 2 ^ (8 : Int).toNat from he)]
  rw [Nat.zero_or, show a * 2 ^ (0 : Int).toNat = a from Nat.mul_one a]
  rw [or_at (f := (8 : Int).toNat) (g := 256) ha rfl, or_at (f := (16 : Int).toNat) (g := 65536) (show a + b * 256 < 65536 by omega) rfl, or_at (f := (24 : Int).toNat) (g := 16777216) (show a + b * 256 + c * 65536 < 16777216 by omega) rfl, or_at (f := (32 : Int).toNat) (g := 4294967296) (show a + b * 256 + c * 65536 + d * 16777216 < 4294967296 by omega) rfl]
theorem put_large {a b c : Nat} (ha : a < 65536) (hb : b < 65536) (hc : c < 65536) : put largef [a, b, c] = some (sumL a b c) := by
  rw [put, if_pos ⟨by decide +kernel, rfl⟩]
  unfold largef sumL
  simp only [putFrom]
  rw [if_pos (show a < 2 ^ (16 : Int).toNat from ha), if_pos (show b < 2 ^ (16 : Int).toNat from hb), if_pos (show c < 2 ^ (16 : Int).toNat from hc)]
  rw [Nat.zero_or, show a * 2 ^ (0 : Int).toNat = a from Nat.mul_one a]
  rw [or_at (f := (16 : Int).toNat) (g := 65536) ha rfl, or_at (f := (32 : Int).toNat) (g := 4294967296) (show a + b * 65536 < 4294967296 by omega) rfl]
theorem gets_small (w : Nat) : gets w smallf = [w % 256, w / 256 % 256, w / 65536 % 256, w / 16777216 % 2, w / 4294967296 % 256] := by
  simp only [gets, smallf, List.map_cons, List.map_nil]
  refine List.cons_eq_cons.2 ⟨?_, rfl⟩
  show w / 1 % 256 = w % 256
  rw [Nat.div_one]
theorem gets_large (w : Nat) : gets w largef = [w % 65536, w / 65536 % 65536, w / 4294967296 % 65536] := by
  simp only [gets, largef, List.map_cons, List.map_nil]
  refine List.cons_eq_cons.2 ⟨?_, rfl⟩
  show w / 1 % 65536 = w % 65536
  rw [Nat.div_one]
/-- nothing is left beside the fields just where the word is what its fields put -/
theorem rest_put {l : List Fd} {w : Nat} (hg : good l = true) (hw : w ≤ top) : rest w l = 0 ↔ put l (gets w l) = some w := by
  have hs := (good_iff l).1 hg
  have hle := hs.mask_le
  have hp : put l (gets w l) = some (w &&& mask l) := by
    rw [put, if_pos ⟨hg, by simp [gets]⟩, putFrom_fits l 0 _ (fits_gets w l), Nat.zero_or, putL_gets]
  rw [hp, rest, if_pos hg, restFrom_eq l w hs hw]
  have h1 := and_or_not hw hle
  constructor
  · intro h
    rw [h, Nat.or_zero] at h1
    rw [h1]
  · intro h
    injection h with h2
    have h3 := and_not_and (w := w) hle w
    rw [h2] at h3
    rw [← Nat.and_assoc, Nat.and_self] at h3
    exact h3
theorem rest_small {w : Nat} (hw : w ≤ top) : rest w smallf = 0 ↔ w = sumS (w % 256) (w / 256 % 256) (w / 65536 % 256) (w / 16777216 % 2) (w / 4294967296 % 256) := by
  rw [rest_put (by decide +kernel) hw, gets_small, put_small (by omega) (by omega) (by omega) (by omega) (by omega)]
  constructor
  · intro h
    injection h with h
    exact h.symm
  · intro h
    rw [← h]
theorem rest_large {w : Nat} (hw : w ≤ top) : rest w largef = 0 ↔ w = sumL (w % 65536) (w / 65536 % 65536) (w / 4294967296 % 65536) := by
  rw [rest_put (by decide +kernel) hw, gets_large, put_large (by omega) (by omega) (by omega)]
  constructor
  · intro h
    injection h with h
    exact h.symm
  · intro h
    rw [← h]

/-! ### its words, as the program puts them -/
def fulln (t : Tng) : Nat := if t.full = true then 1 else 0
theorem pput_w0 {t : Tng} (h : Smallth t) : put smallf [t.ty.toNat, t.bits.toNat, t.base.toNat, fulln t, t.frm.toNat] = some t.w0 := by
  obtain ⟨ty, bits, base, size, used, frm, badge, full, word, d0, d1, d2, d3⟩ := t
  obtain ⟨⟨a1, a2⟩, ⟨b1, b2⟩, ⟨c1, c2⟩, _, _, ⟨g1, g2⟩, _⟩ := h
  simp only at a1 a2 b1 b2 c1 c2 g1 g2
  rw [put_small (by simp only; omega) (by simp only; omega) (by simp only; omega) (by unfold fulln; simp only; split <;> omega) (by simp only; omega)]
  unfold sumS fulln Tng.w0
  simp only
  congr 1
  cases full <;> simp <;> omega
theorem pput_w1 {t : Tng} (h : Smallth t) : put largef [t.size.toNat, t.used.toNat, t.badge.toNat] = some t.w1 := by
  obtain ⟨ty, bits, base, size, used, frm, badge, full, word, d0, d1, d2, d3⟩ := t
  obtain ⟨_, _, _, ⟨a1, a2⟩, ⟨b1, b2⟩, _, ⟨c1, c2⟩⟩ := h
  simp only at a1 a2 b1 b2 c1 c2
  rw [put_large (by simp only; omega) (by simp only; omega) (by simp only; omega)]
  unfold sumL Tng.w1
  simp only
  congr 1
  omega

/-! ### what is read -/
/-- the thing of eight words as the program reads it -/
def tofp (a b w d0 d1 d2 d3 : Nat) : Tng := ⟨(a % 256 : Nat), (a / 256 % 256 : Nat), (a / 65536 % 256 : Nat), (b % 65536 : Nat), (b / 65536 % 65536 : Nat), (a / 4294967296 % 256 : Nat), (b / 4294967296 % 65536 : Nat), a / 16777216 % 2 == 1, w, d0, d1, d2, d3⟩
theorem tofp_is {a b w d0 d1 d2 d3 : Nat} (ha : a = sumS (a % 256) (a / 256 % 256) (a / 65536 % 256) (a / 16777216 % 2) (a / 4294967296 % 256)) : tofw a b w d0 d1 d2 d3 = tofp a b w d0 d1 d2 d3 := by
  unfold tofw tofp
  unfold sumS at ha
  have e : a / 65536 / 256 % 256 = a / 16777216 % 2 := by omega
  simp only [Tng.mk.injEq, and_true, true_and, e]
  refine ⟨?_, ?_⟩
  · congr 1
    omega
  · congr 1
    omega
theorem wof_w0 (a b w d0 d1 d2 d3 : Nat) : (tofp a b w d0 d1 d2 d3).w0 = sumS (a % 256) (a / 256 % 256) (a / 65536 % 256) (a / 16777216 % 2) (a / 4294967296 % 256) := by
  unfold Tng.w0 tofp sumS
  simp only
  have h : (if (a / 16777216 % 2 == 1) = true then (1 : Int) else 0) = ((a / 16777216 % 2 : Nat) : Int) := by
    by_cases e : a / 16777216 % 2 = 1
    · simp [e]
    · rw [if_neg (by simpa using e)]
      omega
  rw [h]
  omega
theorem wof_w1 (a b w d0 d1 d2 d3 : Nat) : (tofp a b w d0 d1 d2 d3).w1 = sumL (b % 65536) (b / 65536 % 65536) (b / 4294967296 % 65536) := by
  unfold Tng.w1 tofp sumL
  simp only
  omega
theorem tofw_w0 (a b w d0 d1 d2 d3 : Nat) : (tofw a b w d0 d1 d2 d3).w0 = a → a = sumS (a % 256) (a / 256 % 256) (a / 65536 % 256) (a / 16777216 % 2) (a / 4294967296 % 256) := by
  unfold Tng.w0 tofw sumS
  simp only
  intro h
  by_cases e : (a / 65536 / 256 % 256 == 1) = true
  · rw [if_pos e] at h
    omega
  · rw [if_neg e] at h
    omega
theorem tofw_w1 (a b w d0 d1 d2 d3 : Nat) : (tofw a b w d0 d1 d2 d3).w1 = b → b = sumL (b % 65536) (b / 65536 % 65536) (b / 4294967296 % 65536) := by
  unfold Tng.w1 tofw sumL
  simp only
  intro h
  omega
/-- what Get answers, by the program's own tests -/
theorem tget_code {a b w d0 d1 d2 d3 z : Nat} (ha : a ≤ top) (hb : b ≤ top) :
    tget [a, b, w, d0, d1, d2, d3, z] = if z = 0 ∧ rest a smallf = 0 ∧ rest b largef = 0 then (if (tofp a b w d0 d1 d2 d3).good = true then some (tofp a b w d0 d1 d2 d3) else none) else none := by
  have e : tof [a, b, w, d0, d1, d2, d3, z] = tofw a b w d0 d1 d2 d3 := rfl
  rw [tget, e]
  by_cases h : z = 0 ∧ rest a smallf = 0 ∧ rest b largef = 0
  · rw [if_pos h]
    have h1 := (rest_small ha).1 h.2.1
    have h2 := (rest_large hb).1 h.2.2
    rw [tofp_is h1]
    have hw : (tofp a b w d0 d1 d2 d3).words = [a, b, w, d0, d1, d2, d3, z] := by
      rw [Tng.words, wof_w0, wof_w1, ← h1, ← h2, h.1]
      rfl
    by_cases hg : (tofp a b w d0 d1 d2 d3).good = true
    · rw [if_pos hg, if_pos ⟨rfl, hg, hw⟩]
    · rw [if_neg hg, if_neg (fun k => hg k.2.1)]
  · rw [if_neg h, if_neg]
    rintro ⟨_, _, k⟩
    rw [Tng.words] at k
    simp only [List.cons.injEq, and_true] at k
    exact h ⟨k.2.2.2.2.2.2.2.symm, (rest_small ha).2 (tofw_w0 _ _ _ _ _ _ _ k.1), (rest_large hb).2 (tofw_w1 _ _ _ _ _ _ _ k.2.1)⟩
end Go.Proofs.Ytglibcmlophieaa
