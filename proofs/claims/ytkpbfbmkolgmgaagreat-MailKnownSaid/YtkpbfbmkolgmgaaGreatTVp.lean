/-
  A region that loads from a box of its own, and stores the call's answer there, in any order. No condition.
-/
import Derived.Test.YtkpbfbmkolgmgaaGreatTDt
namespace Go.Proofs.YtkpbfbmkolgmgaaGreat
open Go.RowKit
set_option linter.unusedSimpArgs false
set_option linter.unusedVariables false

/-! ### a region that loads from a box of its own, and stores the call's answer there -/
theorem st_load {P : Program} {ops : Array Oper} {o : Oper} {a : Act} {w : World} {K : Act → World → Prop} {Q : Exit → Act → World → Prop} (hw : Region.wanted o (yielded ops a.tmps) = true) (ty : TypeId) (x : Operand) (ho : o.op = .load ty x)
    (b off : Nat) (hx : a.eval x = .pointer (some ⟨b, off, none⟩)) (cs : List Value) (d : TypeDesc) (hr : w.rangeAt b off cs) (hu : P.underlying ty = some d) (hd : d.isRow = true) (hi : (P.info? ty).map (·.size) = some cs.length) (hk : K (a.put o.dst (.agg cs.toArray)) w) : OpW P ops o a w K Q := by
  rcases yieldsIf_load_mid (S := fun w' => w' = w) hw ty x ho b off hx cs d (fun w' e => e ▸ hr) hu hd hi with ⟨_, h⟩ | ⟨h, _⟩
  · exact st_run hw (h w rfl) hk
  · rw [hw] at h; cases h
structure P7 (U : World) (g : Nat) (l1 l2 : List Int) (a b c : Int) (A : Option Addr) (n ca : Nat) (C : Option Addr) (m cc : Nat) (r : Option St) (R : Value) (mk : Value → Value → Value) (CQ : Value) (fld fb1 fw1 fb2 fw2 fbd fdo fmv fe1 fe2 fs : Bool) (vld vb1 vw1 vb2 vw2 vbd vdo vmv ve1 ve2 : Value) (w : World) : Prop where
  ld : fld = true → vld = CQ
  h : fs = false → PHI U l1 l2 a b c A n ca C m cc r R [] false true mk fb1 fw1 fb2 fw2 fbd fdo fmv fe1 fe2 false false false vb1 vw1 vb2 vw2 vbd vdo vmv ve1 ve2 undef undef w
  s : fs = true → (fld && fb1 && fw1 && fb2 && fw2 && fbd && fdo && fmv && fe1) = true ∧ ∃ w0 A' ca' C' cc', vdo = .tuple #[.agg #[.int .i64 a, .int .i64 b, .int .i64 c, .slice A' n ca', .slice C' m cc'], R] ∧
    w = w0.setCells g 0 [.int .i64 a, .int .i64 b, .int .i64 c, .slice A' n ca', .slice C' m cc'] ∧ PHI U l1 l2 a b c A n ca C m cc r R [] false true mk fb1 fw1 fb2 fw2 fbd fdo fmv fe1 fe2 false false false vb1 vw1 vb2 vw2 vbd vdo vmv ve1 ve2 undef undef w0
section
variable {U : World} {g : Nat} {l1 l2 : List Int} {a b c : Int} {A : Option Addr} {n ca : Nat} {C : Option Addr} {m cc : Nat} {r : Option St} {R : Value} {CY : List Value} {mk : Value → Value → Value} {CQ : Value} {fld fb1 fw1 fb2 fw2 fbd fdo fmv fe1 fe2 fq fy fs nb ny : Bool} {vld vb1 vw1 vb2 vw2 vbd vdo vmv ve1 ve2 vq vy : Value} {w : World}
theorem P7.early (h : P7 U g l1 l2 a b c A n ca C m cc r R mk CQ fld fb1 fw1 fb2 fw2 fbd fdo fmv fe1 fe2 fs vld vb1 vw1 vb2 vw2 vbd vdo vmv ve1 ve2 w) (hf : (fld && fb1 && fw1 && fb2 && fw2 && fbd && fdo && fmv && fe1) = false) : fs = false := by
  rw [Bool.eq_false_iff]
  intro e
  have := (h.s e).1
  rw [hf] at this
  cases this
theorem PHI.e1v (h : PHI U l1 l2 a b c A n ca C m cc r R CY nb ny mk fb1 fw1 fb2 fw2 fbd fdo fmv fe1 fe2 fq fy fs vb1 vw1 vb2 vw2 vbd vdo vmv ve1 ve2 vq vy w) (h1 : fmv = true) (h2 : fe1 = true) : ∃ A' ca' C' cc', ve1 = .agg #[.int .i64 a, .int .i64 b, .int .i64 c, .slice A' n ca', .slice C' m cc'] ∧ vdo = .tuple #[.agg #[.int .i64 a, .int .i64 b, .int .i64 c, .slice A' n ca', .slice C' m cc'], R] := by
  obtain ⟨A', ca', C', cc', h3, h4⟩ := h.tup h1
  obtain ⟨-, y, h5⟩ := h.e9 h2
  refine ⟨A', ca', C', cc', ?_, h4.trans h3⟩
  rw [h3] at h5
  injection h5 with h5
  injection h5 with h5
  injection h5 with h5
  exact h5.symm
theorem P7.fin (h : P7 U g l1 l2 a b c A n ca C m cc r R mk CQ fld fb1 fw1 fb2 fw2 fbd fdo fmv fe1 fe2 fs vld vb1 vw1 vb2 vw2 vbd vdo vmv ve1 ve2 w) (k1 : fs = true) : ∃ w0 A' ca' C' cc', w = w0.setCells g 0 [.int .i64 a, .int .i64 b, .int .i64 c, .slice A' n ca', .slice C' m cc'] ∧
    Below U.heap.size U w0 ∧ (match r with | none => A' = A ∧ ca' = ca ∧ C' = C ∧ cc' = cc | some s' => n ≤ ca' ∧ m ≤ cc' ∧ Fsh U w0 s' A' C') := by
  obtain ⟨hf, w0, A', ca', C', cc', eD, ew, hP⟩ := h.s k1
  simp only [Bool.and_eq_true] at hf
  obtain ⟨⟨⟨-, f7⟩, -⟩, -⟩ := hf
  have k := hP.rg rfl
  obtain ⟨A1, ca1, C1, cc1, h3, h4⟩ := k.d f7
  refine ⟨w0, A', ca', C', cc', ew, hP.bb, ?_⟩
  rw [eD] at h3
  injection h3 with h3
  injection h3 with h3
  injection h3 with h3 _
  injection h3 with h3
  injection h3 with h3
  injection h3 with _ h3
  injection h3 with _ h3
  injection h3 with _ h3
  injection h3 with h3 h5
  injection h5 with h5 _
  injection h3 with h3 _ h6
  injection h5 with h5 _ h7
  subst h3 h5 h6 h7
  exact h4
end
end Go.Proofs.YtkpbfbmkolgmgaaGreat
