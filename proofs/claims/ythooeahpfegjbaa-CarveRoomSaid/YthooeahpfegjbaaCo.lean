/-
  The walks of the reference's Cut, CapLess and Stamp. No condition.
-/
import Derived.Test.YthooeahpfegjbaaCn
namespace Go.Proofs.Ythooeahpfegjbaa
open Go.RowKit

theorem flip_eq (a b : Int) : (a == b) = (b == a) := Bool.beq_comm
theorem stamp_no1 {c : Cp} {n : Int} (h : c.good = false) : c.stamp n = (.none, 1) := by rw [Cp.stamp, if_neg (fun q => by rw [h] at q; cases q.1)]
theorem stamp_no2 {c : Cp} {n : Int} (h : n < 1 ∨ 65535 < n) : c.stamp n = (.none, 1) := by
  rw [Cp.stamp, if_neg]
  rintro ⟨_, h2, h3⟩
  unfold inr at h2
  simp only [Bool.and_eq_true, decide_eq_true_eq] at h2
  omega
theorem stamp_ok {c : Cp} {n : Int} (h : c.good = true) (h1 : ¬ n < 1) (h2 : ¬ 65535 < n) : c.stamp n = if c.badged = true then (if c.ba = 0 then (⟨c.ty, c.th, c.ri, n⟩, 0) else (.none, 5)) else (.none, 7) := by
  rw [Cp.stamp, if_pos]
  refine ⟨h, ?_, by omega⟩
  unfold inr
  simp only [Bool.and_eq_true, decide_eq_true_eq]
  omega

end Go.Proofs.Ythooeahpfegjbaa
