/-
  How arguments []int and uint64 read. No condition.
-/
import Derived.Test.YtkpbfbmkolgmgaaGreatTA2
import Derived.Test.YtkpbfbmkolgmgaaGreatTB1
namespace Go.Proofs.YtkpbfbmkolgmgaaGreat
open Go.ChangeShapes Go.WideShapes Go.ChangeAt Go.RowKit Go.Deep

theorem u64_range {a : Int} (h : (Lit.int .u64 a).wf = true) : ∃ z : Nat, a = (z : Int) ∧ z < 18446744073709551616 := by
  have g : IntKind.u64.min ≤ a ∧ a ≤ IntKind.u64.max := by simpa [Lit.wf] using h
  have e1 : IntKind.u64.min = 0 := by decide
  have e2 : IntKind.u64.max = 18446744073709551615 := by decide
  rw [e1, e2] at g
  exact ⟨a.toNat, by omega, by omega⟩
end Go.Proofs.YtkpbfbmkolgmgaaGreat
