/-
  A region of two ways, a call and one or two boxes, in any order: each step. Condition: none.
-/
import Derived.Test.YtkpbfbmkolgmgaaGreatTDs
namespace Go.Proofs.YtkpbfbmkolgmgaaGreat
open Go.RowKit
set_option linter.unusedVariables false

/-- behind the store of the answer's state into its box -/
def PSt (V : World) (a b c : Int) (A : Option Addr) (n ca : Nat) (C : Option Addr) (m cc : Nat) (r : Option St) (R : Value) (CY : List Value) (ny : Bool) (vdo vq vy : Value) (w : World) : Prop :=
  ∃ x A' ca' C' cc', vdo = .tuple #[.agg #[.int .i64 a, .int .i64 b, .int .i64 c, .slice A' n ca', .slice C' m cc'], R] ∧ vq = ptr x ∧ Wbs V w x [.int .i64 a, .int .i64 b, .int .i64 c, .slice A' n ca', .slice C' m cc'] ∧
    (match r with | none => A' = A ∧ ca' = ca ∧ C' = C ∧ cc' = cc | some s' => n ≤ ca' ∧ m ≤ cc' ∧ Fsh V w s' A' C') ∧
    (ny = false → ∃ y, vy = ptr y ∧ y ≠ x ∧ Wbs V w y CY ∧ ∀ s', r = some s' → farA A' y ∧ farA C' y)
structure PHI (V : World) (l1 l2 : List Int) (a b c : Int) (A : Option Addr) (n ca : Nat) (C : Option Addr) (m cc : Nat) (r : Option St) (R : Value) (CY : List Value) (nb ny : Bool) (mk : Value → Value → Value) (fb1 fw1 fb2 fw2 fbd fdo fmv fe1 fe2 fq fy fs : Bool) (vb1 vw1 vb2 vw2 vbd vdo vmv ve1 ve2 vq vy : Value) (w : World) : Prop where
  bb : Below V.heap.size V w
  rg : fs = false → RGF V l1 l2 (ResD V a b c A n ca C m cc r R) (fun v x => AwD v r x) [.int .i64 0, .int .i64 0, .int .i64 0, .slice none 0 0, .slice none 0 0] CY fb1 fw1 fb2 fw2 fdo fq fy vb1 vw1 vb2 vw2 vdo vq vy w
  o : fs = true → fb1 = true ∧ fw1 = true ∧ fb2 = true ∧ fw2 = true ∧ (nb = false → fbd = true) ∧ fdo = true ∧ fmv = true ∧ fe1 = true ∧ fq = true ∧ (ny = false → fy = true)
  p : fs = true → PSt V a b c A n ca C m cc r R CY ny vdo vq vy w
  e6 : fbd = true → fw1 = true ∧ fw2 = true ∧ vbd = mk vw1 vw2
  e8 : fmv = true → fdo = true ∧ vmv = vdo
  e9 : fe1 = true → fmv = true ∧ ∃ y, vmv = .tuple #[ve1, y]
  e10 : fe2 = true → fmv = true ∧ ∃ x, vmv = .tuple #[x, ve2]
section
variable {V : World} {l1 l2 : List Int} {a b c : Int} {A : Option Addr} {n ca : Nat} {C : Option Addr} {m cc : Nat} {r : Option St} {R : Value} {CY : List Value} {nb ny : Bool} {mk : Value → Value → Value} {fb1 fw1 fb2 fw2 fbd fdo fmv fe1 fe2 fq fy fs : Bool} {vb1 vw1 vb2 vw2 vbd vdo vmv ve1 ve2 vq vy : Value} {w w' : World}
theorem resOn (w w' : World) (v : Value) (h : ResD V a b c A n ca C m cc r R w v) (hb : Below w.heap.size w w') : ResD V a b c A n ca C m cc r R w' v := h.on hb
theorem PHI.addB1 (h : PHI V l1 l2 a b c A n ca C m cc r R CY nb ny mk false fw1 fb2 fw2 fbd fdo fmv fe1 fe2 fq fy fs vb1 vw1 vb2 vw2 vbd vdo vmv ve1 ve2 vq vy w) (hb : Below w.heap.size w w') {v : Value} (hv : LisAt w' v l1) : PHI V l1 l2 a b c A n ca C m cc r R CY nb ny mk true fw1 fb2 fw2 fbd fdo fmv fe1 fe2 fq fy fs v vw1 vb2 vw2 vbd vdo vmv ve1 ve2 vq vy w' :=
  ⟨below_on h.bb hb, fun e => ((h.rg e).on resOn hb).addB1 hv, fun e => absurd (h.o e).1 (by decide), fun e => absurd (h.o e).1 (by decide), h.e6, h.e8, h.e9, h.e10⟩
theorem PHI.addB2 (h : PHI V l1 l2 a b c A n ca C m cc r R CY nb ny mk fb1 fw1 false fw2 fbd fdo fmv fe1 fe2 fq fy fs vb1 vw1 vb2 vw2 vbd vdo vmv ve1 ve2 vq vy w) (hb : Below w.heap.size w w') {v : Value} (hv : LisAt w' v l2) : PHI V l1 l2 a b c A n ca C m cc r R CY nb ny mk fb1 fw1 true fw2 fbd fdo fmv fe1 fe2 fq fy fs vb1 vw1 v vw2 vbd vdo vmv ve1 ve2 vq vy w' :=
  ⟨below_on h.bb hb, fun e => ((h.rg e).on resOn hb).addB2 hv, fun e => absurd (h.o e).2.2.1 (by decide), fun e => absurd (h.o e).2.2.1 (by decide), h.e6, h.e8, h.e9, h.e10⟩
theorem PHI.early1 (h : PHI V l1 l2 a b c A n ca C m cc r R CY nb ny mk fb1 false fb2 fw2 fbd fdo fmv fe1 fe2 fq fy fs vb1 vw1 vb2 vw2 vbd vdo vmv ve1 ve2 vq vy w) : fs = false ∧ fbd = false := by
  constructor
  · rw [Bool.eq_false_iff]; exact fun e => absurd (h.o e).2.1 (by decide)
  · rw [Bool.eq_false_iff]; exact fun e => absurd (h.e6 e).1 (by decide)
theorem PHI.early2 (h : PHI V l1 l2 a b c A n ca C m cc r R CY nb ny mk fb1 fw1 fb2 false fbd fdo fmv fe1 fe2 fq fy fs vb1 vw1 vb2 vw2 vbd vdo vmv ve1 ve2 vq vy w) : fs = false ∧ fbd = false := by
  constructor
  · rw [Bool.eq_false_iff]; exact fun e => absurd (h.o e).2.2.2.1 (by decide)
  · rw [Bool.eq_false_iff]; exact fun e => absurd (h.e6 e).2.1 (by decide)
theorem PHI.addW1 (h : PHI V l1 l2 a b c A n ca C m cc r R CY nb ny mk fb1 false fb2 fw2 fbd fdo fmv fe1 fe2 fq fy fs vb1 vw1 vb2 vw2 vbd vdo vmv ve1 ve2 vq vy w) (h1 : fb1 = true) (hb : Below w.heap.size w w') {v : Value} (hv : v = .agg #[vb1]) : PHI V l1 l2 a b c A n ca C m cc r R CY nb ny mk fb1 true fb2 fw2 fbd fdo fmv fe1 fe2 fq fy fs vb1 v vb2 vw2 vbd vdo vmv ve1 ve2 vq vy w' := by
  obtain ⟨q1, q2⟩ := h.early1
  subst q1 q2
  exact ⟨below_on h.bb hb, fun e => ((h.rg e).on resOn hb).addW1 h1 hv, fun e => absurd e (by decide), fun e => absurd e (by decide), fun e => absurd e (by decide), h.e8, h.e9, h.e10⟩
theorem PHI.addW2 (h : PHI V l1 l2 a b c A n ca C m cc r R CY nb ny mk fb1 fw1 fb2 false fbd fdo fmv fe1 fe2 fq fy fs vb1 vw1 vb2 vw2 vbd vdo vmv ve1 ve2 vq vy w) (h1 : fb2 = true) (hb : Below w.heap.size w w') {v : Value} (hv : v = .agg #[vb2]) : PHI V l1 l2 a b c A n ca C m cc r R CY nb ny mk fb1 fw1 fb2 true fbd fdo fmv fe1 fe2 fq fy fs vb1 vw1 vb2 v vbd vdo vmv ve1 ve2 vq vy w' := by
  obtain ⟨q1, q2⟩ := h.early2
  subst q1 q2
  exact ⟨below_on h.bb hb, fun e => ((h.rg e).on resOn hb).addW2 h1 hv, fun e => absurd e (by decide), fun e => absurd e (by decide), fun e => absurd e (by decide), h.e8, h.e9, h.e10⟩
theorem PHI.addBd (h : PHI V l1 l2 a b c A n ca C m cc r R CY false ny mk fb1 fw1 fb2 fw2 false fdo fmv fe1 fe2 fq fy fs vb1 vw1 vb2 vw2 vbd vdo vmv ve1 ve2 vq vy w) (h1 : fw1 = true) (h2 : fw2 = true) {v : Value} (hv : v = mk vw1 vw2) : PHI V l1 l2 a b c A n ca C m cc r R CY false ny mk fb1 fw1 fb2 fw2 true fdo fmv fe1 fe2 fq fy fs vb1 vw1 vb2 vw2 v vdo vmv ve1 ve2 vq vy w :=
  ⟨h.bb, h.rg, fun e => absurd ((h.o e).2.2.2.2.1 rfl) (by decide), h.p, fun _ => ⟨h1, h2, hv⟩, h.e8, h.e9, h.e10⟩
theorem PHI.notS (h : PHI V l1 l2 a b c A n ca C m cc r R CY nb ny mk fb1 fw1 fb2 fw2 fbd false fmv fe1 fe2 fq fy fs vb1 vw1 vb2 vw2 vbd vdo vmv ve1 ve2 vq vy w) : fs = false ∧ fmv = false := by
  constructor
  · rw [Bool.eq_false_iff]; exact fun e => absurd (h.o e).2.2.2.2.2.1 (by decide)
  · rw [Bool.eq_false_iff]; exact fun e => absurd (h.e8 e).1 (by decide)
theorem PHI.addD (h : PHI V l1 l2 a b c A n ca C m cc r R CY nb ny mk fb1 fw1 fb2 fw2 fbd false fmv fe1 fe2 fq fy fs vb1 vw1 vb2 vw2 vbd vdo vmv ve1 ve2 vq vy w) (hb : Below w.heap.size w w') {v : Value} (hd : ResD V a b c A n ca C m cc r R w' v) (ha : ∀ x, x < w.heap.size → AwD v r x) : PHI V l1 l2 a b c A n ca C m cc r R CY nb ny mk fb1 fw1 fb2 fw2 fbd true fmv fe1 fe2 fq fy fs vb1 vw1 vb2 vw2 vbd v vmv ve1 ve2 vq vy w' := by
  obtain ⟨q1, q2⟩ := h.notS
  subst q1 q2
  exact ⟨below_on h.bb hb, fun e => (h.rg e).addD resOn hb hd ha, fun e => absurd e (by decide), fun e => absurd e (by decide), h.e6, fun e => absurd e (by decide), fun e => absurd (h.e9 e).1 (by decide), fun e => absurd (h.e10 e).1 (by decide)⟩
theorem PHI.addMv (h : PHI V l1 l2 a b c A n ca C m cc r R CY nb ny mk fb1 fw1 fb2 fw2 fbd fdo false fe1 fe2 fq fy fs vb1 vw1 vb2 vw2 vbd vdo vmv ve1 ve2 vq vy w) (h1 : fdo = true) {v : Value} (hv : v = vdo) : PHI V l1 l2 a b c A n ca C m cc r R CY nb ny mk fb1 fw1 fb2 fw2 fbd fdo true fe1 fe2 fq fy fs vb1 vw1 vb2 vw2 vbd vdo v ve1 ve2 vq vy w :=
  ⟨h.bb, h.rg, fun e => absurd (h.o e).2.2.2.2.2.2.1 (by decide), h.p, h.e6, fun _ => ⟨h1, hv⟩, fun e => absurd (h.e9 e).1 (by decide), fun e => absurd (h.e10 e).1 (by decide)⟩
theorem PHI.addE1 (h : PHI V l1 l2 a b c A n ca C m cc r R CY nb ny mk fb1 fw1 fb2 fw2 fbd fdo fmv false fe2 fq fy fs vb1 vw1 vb2 vw2 vbd vdo vmv ve1 ve2 vq vy w) (h1 : fmv = true) {v y : Value} (hv : vmv = .tuple #[v, y]) : PHI V l1 l2 a b c A n ca C m cc r R CY nb ny mk fb1 fw1 fb2 fw2 fbd fdo fmv true fe2 fq fy fs vb1 vw1 vb2 vw2 vbd vdo vmv v ve2 vq vy w :=
  ⟨h.bb, h.rg, fun e => absurd (h.o e).2.2.2.2.2.2.2.1 (by decide), h.p, h.e6, h.e8, fun _ => ⟨h1, y, hv⟩, h.e10⟩
theorem PHI.addE2 (h : PHI V l1 l2 a b c A n ca C m cc r R CY nb ny mk fb1 fw1 fb2 fw2 fbd fdo fmv fe1 false fq fy fs vb1 vw1 vb2 vw2 vbd vdo vmv ve1 ve2 vq vy w) (h1 : fmv = true) {v x : Value} (hv : vmv = .tuple #[x, v]) : PHI V l1 l2 a b c A n ca C m cc r R CY nb ny mk fb1 fw1 fb2 fw2 fbd fdo fmv fe1 true fq fy fs vb1 vw1 vb2 vw2 vbd vdo vmv ve1 v vq vy w :=
  ⟨h.bb, h.rg, h.o, h.p, h.e6, h.e8, h.e9, fun _ => ⟨h1, x, hv⟩⟩
theorem PHI.addQ (hp : ∀ s', r = some s' → 0 < s'.sl.length ∧ 0 < s'.th.length) (h : PHI V l1 l2 a b c A n ca C m cc r R CY nb ny mk fb1 fw1 fb2 fw2 fbd fdo fmv fe1 fe2 false fy fs vb1 vw1 vb2 vw2 vbd vdo vmv ve1 ve2 vq vy w) (t : TypeId) : PHI V l1 l2 a b c A n ca C m cc r R CY nb ny mk fb1 fw1 fb2 fw2 fbd fdo fmv fe1 fe2 true fy fs vb1 vw1 vb2 vw2 vbd vdo vmv ve1 ve2 (ptr w.heap.size) vy (w.alloc (.cells #[.int .i64 0, .int .i64 0, .int .i64 0, .slice none 0 0, .slice none 0 0] t)) :=
  ⟨below_on h.bb (below_alloc _ _), fun e => (h.rg e).addQ resOn (fun _ _ q => q.newAw hp) t, fun e => absurd (h.o e).2.2.2.2.2.2.2.2.1 (by decide), fun e => absurd (h.o e).2.2.2.2.2.2.2.2.1 (by decide), h.e6, h.e8, h.e9, h.e10⟩
theorem PHI.addY (hp : ∀ s', r = some s' → 0 < s'.sl.length ∧ 0 < s'.th.length) (h : PHI V l1 l2 a b c A n ca C m cc r R CY nb false mk fb1 fw1 fb2 fw2 fbd fdo fmv fe1 fe2 fq false fs vb1 vw1 vb2 vw2 vbd vdo vmv ve1 ve2 vq vy w) (t : TypeId) : PHI V l1 l2 a b c A n ca C m cc r R CY nb false mk fb1 fw1 fb2 fw2 fbd fdo fmv fe1 fe2 fq true fs vb1 vw1 vb2 vw2 vbd vdo vmv ve1 ve2 vq (ptr w.heap.size) (w.alloc (.cells CY.toArray t)) :=
  ⟨below_on h.bb (below_alloc _ _), fun e => (h.rg e).addY resOn (fun _ _ q => q.newAw hp) t, fun e => absurd ((h.o e).2.2.2.2.2.2.2.2.2 rfl) (by decide), fun e => absurd ((h.o e).2.2.2.2.2.2.2.2.2 rfl) (by decide), h.e6, h.e8, h.e9, h.e10⟩
/-- ahead of the store: what it stores, and where -/
theorem PHI.atS (h : PHI V l1 l2 a b c A n ca C m cc r R CY nb ny mk fb1 fw1 fb2 fw2 fbd true true true fe2 true fy false vb1 vw1 vb2 vw2 vbd vdo vmv ve1 ve2 vq vy w) : ∃ x A' ca' C' cc', vq = .pointer (some ⟨x, 0, none⟩) ∧ ve1 = .agg #[.int .i64 a, .int .i64 b, .int .i64 c, .slice A' n ca', .slice C' m cc'] ∧ vdo = .tuple #[.agg #[.int .i64 a, .int .i64 b, .int .i64 c, .slice A' n ca', .slice C' m cc'], R] ∧ Wbs V w x [.int .i64 0, .int .i64 0, .int .i64 0, .slice none 0 0, .slice none 0 0] := by
  have k := h.rg rfl
  obtain ⟨x, h1, h2⟩ := k.q rfl
  obtain ⟨A', ca', C', cc', h3, -⟩ := k.d rfl
  obtain ⟨-, y, h5⟩ := h.e9 rfl
  obtain ⟨-, h6⟩ := h.e8 rfl
  refine ⟨x, A', ca', C', cc', h1, ?_, h3, h2⟩
  rw [h6, h3] at h5
  injection h5 with h5
  injection h5 with h5
  injection h5 with h5
  exact h5.symm
theorem PHI.addS (h : PHI V l1 l2 a b c A n ca C m cc r R CY nb ny mk true true true true fbd true true true fe2 true fy false vb1 vw1 vb2 vw2 vbd vdo vmv ve1 ve2 vq vy w) (hnb : nb = false → fbd = true) (hny : ny = false → fy = true) {x : Nat} {A' : Option Addr} {ca' : Nat} {C' : Option Addr} {cc' : Nat} (hx : vq = .pointer (some ⟨x, 0, none⟩)) (hd : vdo = .tuple #[.agg #[.int .i64 a, .int .i64 b, .int .i64 c, .slice A' n ca', .slice C' m cc'], R]) :
    PHI V l1 l2 a b c A n ca C m cc r R CY nb ny mk true true true true fbd true true true fe2 true fy true vb1 vw1 vb2 vw2 vbd vdo vmv ve1 ve2 vq vy (w.setCells x 0 [.int .i64 a, .int .i64 b, .int .i64 c, .slice A' n ca', .slice C' m cc']) := by
  have k := h.rg rfl
  obtain ⟨x', h1, h2⟩ := k.q rfl
  rw [hx] at h1
  injection h1 with h1
  injection h1 with h1
  injection h1 with h1
  subst h1
  have hq := h2.setCells (vs := [.int .i64 a, .int .i64 b, .int .i64 c, .slice A' n ca', .slice C' m cc']) rfl
  have f := Fnd.setCells x [.int .i64 a, .int .i64 b, .int .i64 c, .slice A' n ca', .slice C' m cc'] 0 w
  have haw := k.aq rfl rfl x hx
  obtain ⟨A1, ca1, C1, cc1, h3, h4⟩ := k.d rfl
  rw [hd] at h3
  injection h3 with h3
  injection h3 with h3
  injection h3 with h3 _
  injection h3 with h3
  injection h3 with h3
  injection h3 with _ h3
  injection h3 with _ h3
  injection h3 with _ h3
  injection h3 with h3 h5
  injection h5 with h5 _
  injection h3 with h3 _ h6
  injection h5 with h5 _ h7
  subst h3 h5 h6 h7
  refine ⟨hq.bx.old, fun e => absurd e (by decide), fun _ => ⟨rfl, rfl, rfl, rfl, hnb, rfl, rfl, rfl, rfl, hny⟩, fun _ => ⟨x, A', ca', C', cc', hd, hx, hq, ?_, fun e => ?_⟩, h.e6, h.e8, h.e9, h.e10⟩
  · rcases r with _ | s'
    · exact h4
    · obtain ⟨f1, f2⟩ := haw a b c A' n ca' C' m cc' R hd s' rfl
      exact ⟨h4.1, h4.2.1, h4.2.2.far f f1 f2⟩
  · obtain ⟨y, h8, h9⟩ := k.y (hny e)
    have hne : y ≠ x := fun q => k.ne rfl (hny e) (by rw [hx, h8, q]; rfl)
    exact ⟨y, h8, hne, h9.fnd f hne hq.bx.old, fun s' hr => k.ay (hny e) rfl y h8 a b c A' n ca' C' m cc' R hd s' hr⟩
theorem PHI.tup (h : PHI V l1 l2 a b c A n ca C m cc r R CY nb ny mk fb1 fw1 fb2 fw2 fbd fdo fmv fe1 fe2 fq fy fs vb1 vw1 vb2 vw2 vbd vdo vmv ve1 ve2 vq vy w) (h1 : fmv = true) : ∃ A' ca' C' cc', vmv = .tuple #[.agg #[.int .i64 a, .int .i64 b, .int .i64 c, .slice A' n ca', .slice C' m cc'], R] ∧ vdo = vmv := by
  obtain ⟨k1, k2⟩ := h.e8 h1
  rcases hs : fs with _ | _
  · obtain ⟨A', ca', C', cc', h3, -⟩ := (h.rg hs).d k1
    exact ⟨A', ca', C', cc', k2.trans h3, k2.symm⟩
  · obtain ⟨x, A', ca', C', cc', h3, -⟩ := h.p hs
    exact ⟨A', ca', C', cc', k2.trans h3, k2.symm⟩
theorem PHI.atS' (h : PHI V l1 l2 a b c A n ca C m cc r R CY nb ny mk fb1 fw1 fb2 fw2 fbd fdo fmv fe1 fe2 fq fy false vb1 vw1 vb2 vw2 vbd vdo vmv ve1 ve2 vq vy w) (k1 : fdo = true) (k2 : fmv = true) (k3 : fe1 = true) (k4 : fq = true) : ∃ x A' ca' C' cc', vq = .pointer (some ⟨x, 0, none⟩) ∧ ve1 = .agg #[.int .i64 a, .int .i64 b, .int .i64 c, .slice A' n ca', .slice C' m cc'] ∧ vdo = .tuple #[.agg #[.int .i64 a, .int .i64 b, .int .i64 c, .slice A' n ca', .slice C' m cc'], R] ∧ Wbs V w x [.int .i64 0, .int .i64 0, .int .i64 0, .slice none 0 0, .slice none 0 0] := by
  subst k1 k2 k3 k4
  exact h.atS
theorem PHI.addS' (h : PHI V l1 l2 a b c A n ca C m cc r R CY nb ny mk fb1 fw1 fb2 fw2 fbd fdo fmv fe1 fe2 fq fy false vb1 vw1 vb2 vw2 vbd vdo vmv ve1 ve2 vq vy w) (j1 : fb1 = true) (j2 : fw1 = true) (j3 : fb2 = true) (j4 : fw2 = true) (hnb : nb = false → fbd = true) (k1 : fdo = true) (k2 : fmv = true) (k3 : fe1 = true) (k4 : fq = true) (hny : ny = false → fy = true) {x : Nat} {A' : Option Addr} {ca' : Nat} {C' : Option Addr} {cc' : Nat} (hx : vq = .pointer (some ⟨x, 0, none⟩)) (hd : vdo = .tuple #[.agg #[.int .i64 a, .int .i64 b, .int .i64 c, .slice A' n ca', .slice C' m cc'], R]) :
    PHI V l1 l2 a b c A n ca C m cc r R CY nb ny mk fb1 fw1 fb2 fw2 fbd fdo fmv fe1 fe2 fq fy true vb1 vw1 vb2 vw2 vbd vdo vmv ve1 ve2 vq vy (w.setCells x 0 [.int .i64 a, .int .i64 b, .int .i64 c, .slice A' n ca', .slice C' m cc']) := by
  subst j1 j2 j3 j4 k1 k2 k3 k4
  exact h.addS hnb hny hx hd
theorem PHI.way1 (h : PHI V l1 l2 a b c A n ca C m cc r R CY nb ny mk fb1 fw1 fb2 fw2 fbd fdo fmv fe1 fe2 fq fy false vb1 vw1 vb2 vw2 vbd vdo vmv ve1 ve2 vq vy w) (h1 : fb1 = true) : LisAt w vb1 l1 ∧ (fw1 = true → vw1 = .agg #[vb1]) := ⟨(h.rg rfl).i1 h1, fun e => ((h.rg rfl).w1 e).2⟩
theorem PHI.way2 (h : PHI V l1 l2 a b c A n ca C m cc r R CY nb ny mk fb1 fw1 fb2 fw2 fbd fdo fmv fe1 fe2 fq fy false vb1 vw1 vb2 vw2 vbd vdo vmv ve1 ve2 vq vy w) (h1 : fb2 = true) : LisAt w vb2 l2 ∧ (fw2 = true → vw2 = .agg #[vb2]) := ⟨(h.rg rfl).i2 h1, fun e => ((h.rg rfl).w2 e).2⟩
/-- at the end -/
theorem PHI.fin (h : PHI V l1 l2 a b c A n ca C m cc r R CY nb ny mk fb1 fw1 fb2 fw2 fbd fdo fmv fe1 fe2 fq fy fs vb1 vw1 vb2 vw2 vbd vdo vmv ve1 ve2 vq vy w) (k1 : fs = true) (k2 : fe2 = true) : Below V.heap.size V w ∧ ve2 = R ∧ PSt V a b c A n ca C m cc r R CY ny vdo vq vy w := by
  refine ⟨h.bb, ?_, h.p k1⟩
  obtain ⟨k3, x, h2⟩ := h.e10 k2
  obtain ⟨A', ca', C', cc', h3, -⟩ := h.tup k3
  rw [h3] at h2
  injection h2 with h2
  injection h2 with h2
  injection h2 with _ h2
  injection h2 with h2
  exact h2.symm
def flat1 : Value → Value
  | .agg ⟨[x]⟩ => x
  | v => v
end
/-- one operation of a region: it yields a value; it calls; it stores a struct -/
theorem st_run {P : Program} {ops : Array Oper} {o : Oper} {a : Act} {w w' : World} {K : Act → World → Prop} {Q : Exit → Act → World → Prop} {v : Value} (hw : Region.wanted o (yielded ops a.tmps) = true) (hr : (execOp a.eval o).run P w = .ok (.value v) w') (hk : K (a.put o.dst v) w') : OpW P ops o a w K Q := by
  refine .of ?_
  rw [if_pos hw, Oper.wp, hr]
  exact hk
theorem st_call {P : Program} {ops : Array Oper} {o : Oper} {a : Act} {w w' : World} {K : Act → World → Prop} {Q : Exit → Act → World → Prop} {f : Nat} {args : Array Value} (hw : Region.wanted o (yielded ops a.tmps) = true) (hr : (execOp a.eval o).run P w = .ok (.enter f args) w') (hc : Calls P f args w' fun e w'' => ∃ u, e = .returned u ∧ K (a.put o.dst u) w'') : OpW P ops o a w K Q := by
  refine .of ?_
  rw [if_pos hw, Oper.wp, hr]
  refine Calls.mono hc fun e w'' he => ?_
  obtain ⟨u, rfl, hk⟩ := he
  exact hk
theorem st_store {P : Program} {ops : Array Oper} {o : Oper} {a : Act} {w : World} {K : Act → World → Prop} {Q : Exit → Act → World → Prop} (hgd : o.guard = none) (ty : TypeId) (x y : Operand) (ho : o.op = .store ty x y)
    (b off : Nat) (cells : Array Value) (hx : a.eval x = .pointer (some ⟨b, off, none⟩)) (hy : a.eval y = .agg cells) (ht : w.there b off cells.size) (hi : (P.info? ty).map (·.size) = some cells.size) (h1 : cells.all (·.oneCell') = true)
    (h : K (a.put o.dst undef) (w.setCells b off cells.toList)) : OpW P ops o a w K Q := .of (step_store_mid hgd ty x y ho b off cells hx hy ht hi h1 h)
theorem ff {b : Bool} {p : Prop} (hb : b = false) (e : b = true) : p := by rw [hb] at e; cases e
end Go.Proofs.YtkpbfbmkolgmgaaGreat
