/-
  What the program's own calls reckon, against what a thing is: plain facts. No condition.
-/
import Derived.Test.YthooeahpfegjbaaId
namespace Go.Proofs.Ythooeahpfegjbaa

/-! ### which may be -/
def Tng.kin (t : Tng) : Tng :=
  if t.ty = 1 then { Tng.of 1 with size := t.size, used := t.used }
  else if t.ty = 2 then { Tng.of 2 with bits := t.bits, base := t.base }
  else if t.ty = 3 then (if t.full = true then { Tng.of 3 with full := true, word := t.word, badge := t.badge, frm := t.frm } else Tng.of 3)
  else if t.ty = 4 then { Tng.of 4 with word := t.word }
  else if t.ty = 5 then { Tng.of 5 with d0 := t.d0, d1 := t.d1, d2 := t.d2, d3 := t.d3 }
  else Tng.of 0
def Tng.fitp (t : Tng) : Bool :=
  if t.ty = 1 then inr3 t.size 1 4096 && inr3 t.used 0 t.size
  else if t.ty = 2 then inr3 t.bits 1 4 && inr3 t.base 0 (96 - tw2 t.bits)
  else inr3 t.badge 0 65535 && inr3 t.frm 0 96
theorem good_code (t : Tng) : t.good = (t.eq t.kin && t.fitp) := by
  rw [Bool.eq_iff_iff, tng_good, Bool.and_eq_true, Tng.eq_iff]
  constructor
  · intro h
    cases h <;> simp_all [Tng.kin, Tng.fitp, Tng.of, inr3]
  · rintro ⟨h2, h1⟩
    unfold Tng.fitp at h1
    unfold Tng.kin at h2
    by_cases k1 : t.ty = 1
    · rw [if_pos k1] at h1 h2
      rw [Bool.and_eq_true, inr3_iff, inr3_iff] at h1
      rw [h2]
      exact .room _ _ h1.1.1 h1.1.2 h1.2.1 h1.2.2
    rw [if_neg k1] at h1 h2
    by_cases k2 : t.ty = 2
    · rw [if_pos k2] at h1 h2
      rw [Bool.and_eq_true, inr3_iff, inr3_iff] at h1
      rw [h2]
      exact .node _ _ h1.1.1 h1.1.2 h1.2.1 h1.2.2
    rw [if_neg k2] at h1 h2
    rw [Bool.and_eq_true, inr3_iff, inr3_iff] at h1
    by_cases k3 : t.ty = 3
    · rw [if_pos k3] at h2
      by_cases kf : t.full = true
      · rw [if_pos kf] at h2
        rw [h2]
        exact .full _ _ _ h1.1.1 h1.1.2 h1.2.1 h1.2.2
      · rw [if_neg kf] at h2
        rw [h2]
        exact .mail
    rw [if_neg k3] at h2
    by_cases k4 : t.ty = 4
    · rw [if_pos k4] at h2
      rw [h2]
      exact .bell _
    rw [if_neg k4] at h2
    by_cases k5 : t.ty = 5
    · rw [if_pos k5] at h2
      rw [h2]
      exact .leaf _ _ _ _
    rw [if_neg k5] at h2
    rw [h2]
    exact .none

/-! ### its fields in a word -/
/-! ### its words, as the program puts them -/
/-! ### what is read -/
end Go.Proofs.Ythooeahpfegjbaa
