/-
  A region that loads a state from a box of its own, stores the call's answer there, and its reply into a new box, in any order. No condition.
-/
import Derived.Test.YtkpbfbmkolgmgaaGreatTVp
namespace Go.Proofs.YtkpbfbmkolgmgaaGreat
open Go.RowKit
set_option linter.unusedSimpArgs false
set_option linter.unusedVariables false

structure P8 (U : World) (g : Nat) (l1 l2 : List Int) (a b c : Int) (A : Option Addr) (n ca : Nat) (C : Option Addr) (m cc : Nat) (r : Option St) (R : Value) (mk : Value → Value → Value) (CQ : Value) (CY : List Value) (fld fb1 fw1 fb2 fw2 fbd fdo fmv fe1 fe2 fy fs : Bool) (vld vb1 vw1 vb2 vw2 vbd vdo vmv ve1 ve2 vy : Value) (w : World) : Prop where
  ld : fld = true → vld = CQ
  h : fs = false → PHI U l1 l2 a b c A n ca C m cc r R CY false false mk fb1 fw1 fb2 fw2 fbd fdo fmv fe1 fe2 false fy false vb1 vw1 vb2 vw2 vbd vdo vmv ve1 ve2 undef vy w
  s : fs = true → (fld && fb1 && fw1 && fb2 && fw2 && fbd && fdo && fmv && fe1 && fy) = true ∧ ∃ w0 A' ca' C' cc', vdo = .tuple #[.agg #[.int .i64 a, .int .i64 b, .int .i64 c, .slice A' n ca', .slice C' m cc'], R] ∧
    w = w0.setCells g 0 [.int .i64 a, .int .i64 b, .int .i64 c, .slice A' n ca', .slice C' m cc'] ∧ PHI U l1 l2 a b c A n ca C m cc r R CY false false mk fb1 fw1 fb2 fw2 fbd fdo fmv fe1 fe2 false fy false vb1 vw1 vb2 vw2 vbd vdo vmv ve1 ve2 undef vy w0
section
variable {U : World} {g : Nat} {l1 l2 : List Int} {a b c : Int} {A : Option Addr} {n ca : Nat} {C : Option Addr} {m cc : Nat} {r : Option St} {R : Value} {CY : List Value} {mk : Value → Value → Value} {CQ : Value} {fld fb1 fw1 fb2 fw2 fbd fdo fmv fe1 fe2 fy fs : Bool} {vld vb1 vw1 vb2 vw2 vbd vdo vmv ve1 ve2 vy : Value} {w : World}
theorem P8.early (h : P8 U g l1 l2 a b c A n ca C m cc r R mk CQ CY fld fb1 fw1 fb2 fw2 fbd fdo fmv fe1 fe2 fy fs vld vb1 vw1 vb2 vw2 vbd vdo vmv ve1 ve2 vy w) (hf : (fld && fb1 && fw1 && fb2 && fw2 && fbd && fdo && fmv && fe1 && fy) = false) : fs = false := by
  rw [Bool.eq_false_iff]
  intro e
  have := (h.s e).1
  rw [hf] at this
  cases this
theorem P8.fin (h : P8 U g l1 l2 a b c A n ca C m cc r R mk CQ CY fld fb1 fw1 fb2 fw2 fbd fdo fmv fe1 fe2 fy fs vld vb1 vw1 vb2 vw2 vbd vdo vmv ve1 ve2 vy w) (k1 : fs = true) (k2 : fe2 = true) : ∃ w0 A' ca' C' cc' y, w = w0.setCells g 0 [.int .i64 a, .int .i64 b, .int .i64 c, .slice A' n ca', .slice C' m cc'] ∧
    Below U.heap.size U w0 ∧ (match r with | none => A' = A ∧ ca' = ca ∧ C' = C ∧ cc' = cc | some s' => n ≤ ca' ∧ m ≤ cc' ∧ Fsh U w0 s' A' C') ∧ vy = ptr y ∧ Wbs U w0 y CY ∧ (∀ s', r = some s' → farA A' y ∧ farA C' y) ∧ ve2 = R := by
  obtain ⟨hf, w0, A', ca', C', cc', eD, ew, hP⟩ := h.s k1
  simp only [Bool.and_eq_true] at hf
  obtain ⟨⟨⟨⟨-, f7⟩, f8⟩, f9⟩, f10⟩ := hf
  have k := hP.rg rfl
  obtain ⟨A1, ca1, C1, cc1, h3, h4⟩ := k.d f7
  obtain ⟨y, ey, hY⟩ := k.y f10
  have hay := k.ay f10 f7 y ey
  refine ⟨w0, A', ca', C', cc', y, ew, hP.bb, ?_, ey, hY, fun s' hr => hay a b c A' n ca' C' m cc' R eD s' hr, ?_⟩
  · rw [eD] at h3
    injection h3 with h3
    injection h3 with h3
    injection h3 with h3 _
    injection h3 with h3
    injection h3 with h3
    injection h3 with _ h3
    injection h3 with _ h3
    injection h3 with _ h3
    injection h3 with h3 h5
    injection h5 with h5 _
    injection h3 with h3 _ h6
    injection h5 with h5 _ h7
    subst h3 h5 h6 h7
    exact h4
  · obtain ⟨k3, x, h2⟩ := hP.e10 k2
    obtain ⟨A2, ca2, C2, cc2, h5, -⟩ := hP.tup k3
    rw [h5] at h2
    injection h2 with h2
    injection h2 with h2
    injection h2 with _ h2
    injection h2 with h2
    exact h2.symm
end
theorem Wbs.rebase {V U w : World} {g : Nat} {cs : List Value} (h : Wbs U w g cs) (hb : Below V.heap.size V U) : Wbs V w g cs := ⟨⟨h.bx.c, hb.trans (h.bx.old.mono hb.size), Nat.le_trans hb.size h.bx.base, h.bx.lt⟩, h.free⟩
theorem Ost.slCm {W w : World} {s : St} {P Q j : Nat} (h : Ost W w s P Q) (hj : j < s.sl.length) : SlC w P (j * 5) (slAt s.sl j) := by
  have hr := h.sl j hj
  exact ⟨hr 0 _ rfl, hr 1 _ rfl, hr 2 _ rfl, hr 3 _ rfl, hr 4 _ rfl⟩
theorem Ost.thCm {W w : World} {s : St} {P Q j : Nat} (h : Ost W w s P Q) (hj : j < s.th.length) : ThC w Q (j * 13) (thAt s.th j) := by
  have hr := h.th j hj
  exact ⟨hr 0 _ rfl, hr 1 _ rfl, hr 2 _ rfl, hr 3 _ rfl, hr 4 _ rfl, hr 5 _ rfl, hr 6 _ rfl, hr 7 _ rfl, hr 8 _ rfl, hr 9 _ rfl, hr 10 _ rfl, hr 11 _ rfl, hr 12 _ rfl⟩
end Go.Proofs.YtkpbfbmkolgmgaaGreat
