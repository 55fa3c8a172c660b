/-
  The walks of isNear and Add of package gauss: the exact sum, or false. No condition beyond words below 2^64.
-/
import Derived.Test.YteadkcekoccmdaaWb
namespace Go.Proofs.Yteadkcekoccmdaa
open Go.RowKit Flo

/-- in the range of a part that is multiplied -/
def inN (p : Int) : Bool := decide (-1073741824 ≤ p) && decide (p ≤ 1073741824)
theorem inN_yes {p : Int} (h : inN p = true) : -1073741824 ≤ p ∧ p ≤ 1073741824 := by
  unfold inN at h
  rw [Bool.and_eq_true] at h
  exact ⟨of_decide_eq_true h.1, of_decide_eq_true h.2⟩
theorem inN_mk {p : Int} (h1 : -1073741824 ≤ p) (h2 : p ≤ 1073741824) : inN p = true := by
  unfold inN
  rw [Bool.and_eq_true]
  exact ⟨decide_eq_true h1, decide_eq_true h2⟩
theorem inN_inT {p : Int} (h : inN p = true) : inT p = true := by
  have := inN_yes h
  exact inT_mk (by unfold top; omega) (by unfold top; omega)

theorem within_N (p : Int) (b : Bool) (h : Hid (inN p = b)) (w : World) :
    Calls Try.prog 34 #[.int .i64 p, .int .i64 (-1073741824), .int .i64 1073741824] w fun e w' => e = .returned (.bool b) ∧ w = w' :=
  within_is p _ _ b (Lib.hid h.out) w

/-- what a call of 'Add', 'Mul' or 'Of' answers of the exact parts -/
def ans (p q : Int) : Value := if inT p && inT q then .tuple #[.complex .f64 (F p) (F q), .bool true] else .tuple #[.complex .f64 0 0, .bool false]

theorem wh_val {n : Int} (h : n.natAbs < 2 ^ 53) : wh (F n) = inT n := by
  cases c : inT n
  · refine wh_no ?_
    rintro ⟨m, h1, h2, h3⟩
    have := F_inj h (small_53 h1 h2) h3
    subst this
    rw [inT_mk h1 h2] at c
    cases c
  · exact wh_F (inT_yes c).1 (inT_yes c).2

/-- the world, but for answers that were drawn -/
def Drawn (w w' : World) : Prop := ∃ n, w' = w.drewN n

end Go.Proofs.Yteadkcekoccmdaa
