/-
  The walks of the law's own and of the reference's GoodCap, CapWord, Cut, Stamp and CapLess. No condition.
-/
import Derived.Test.YthooeahpfegjbaaCb
namespace Go.Proofs.Ythooeahpfegjbaa
open Go.RowKit

theorem good_off {a b d f : Int} (h : ¬ (a = 0 ∧ b = 0 ∧ d = 0 ∧ f = 0)) (h2 : ¬ (1 ≤ a ∧ a ≤ 5 ∧ 0 ≤ b ∧ b < 48 ∧ 0 ≤ d ∧ d ≤ 7 ∧ 0 ≤ f ∧ f ≤ 65535 ∧ (f = 0 ∨ a = 3 ∨ a = 4))) : Cp.good ⟨a, b, d, f⟩ = false := by
  rcases hg : Cp.good ⟨a, b, d, f⟩ with _ | _
  · rfl
  · rcases good_iff_all.1 hg with q | q
    · exact absurd q h
    · exact absurd q h2
end Go.Proofs.Ythooeahpfegjbaa
