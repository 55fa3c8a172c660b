/-
  What stands while a region's ways, its call and its boxes come up in any order. Condition: none.
-/
import Derived.Test.YtkpbfbmkolgmgaaGreatTDr
namespace Go.Proofs.YtkpbfbmkolgmgaaGreat
open Go.RowKit
set_option linter.unusedVariables false

/-- a list of ints by its value -/
def LisAt (w : World) (v : Value) (l : List Int) : Prop := ∃ B nb cb, v = .slice B nb cb ∧ nb = l.length ∧ nb ≤ cb ∧ IntsAt w w.heap.size B l
theorem LisAt.on {w w' : World} {v : Value} {l : List Int} (h : LisAt w v l) (hb : Below w.heap.size w w') : LisAt w' v l := by
  obtain ⟨B, nb, cb, h1, h2, h3, h4⟩ := h
  exact ⟨B, nb, cb, h1, h2, h3, h4.on hb⟩
def farA (A : Option Addr) (x : Nat) : Prop := ∀ b, A = some ⟨b, 0, none⟩ → b ≠ x
/-- a call's answer: a state, and R -/
def ResD (V : World) (a b c : Int) (A : Option Addr) (n ca : Nat) (C : Option Addr) (m cc : Nat) (r : Option St) (R : Value) (w : World) (v : Value) : Prop :=
  ∃ A' ca' C' cc', v = .tuple #[.agg #[.int .i64 a, .int .i64 b, .int .i64 c, .slice A' n ca', .slice C' m cc'], R] ∧
    match r with
    | none => A' = A ∧ ca' = ca ∧ C' = C ∧ cc' = cc
    | some s' => n ≤ ca' ∧ m ≤ cc' ∧ Fsh V w s' A' C'
/-- the answer's own blocks are others than x -/
def AwD (v : Value) (r : Option St) (x : Nat) : Prop := ∀ a b c A' n ca' C' m cc' R, v = .tuple #[.agg #[.int .i64 a, .int .i64 b, .int .i64 c, .slice A' n ca', .slice C' m cc'], R] → ∀ s', r = some s' → farA A' x ∧ farA C' x
theorem Fsh.up {V w w' : World} {s : St} {A C : Option Addr} (h : Fsh V w s A C) (hb : Below w.heap.size w w') : Fsh V w' s A C := h.move (Nat.le_refl _) hb.size fun k _ h2 => hb.block k h2
section
variable {V : World} {a b c : Int} {A : Option Addr} {n ca : Nat} {C : Option Addr} {m cc : Nat} {r : Option St} {R : Value} {w w' : World} {v : Value}
theorem ResD.on (h : ResD V a b c A n ca C m cc r R w v) (hb : Below w.heap.size w w') : ResD V a b c A n ca C m cc r R w' v := by
  obtain ⟨A', ca', C', cc', h1, h2⟩ := h
  refine ⟨A', ca', C', cc', h1, ?_⟩
  rcases r with _ | s'
  · exact h2
  · exact ⟨h2.1, h2.2.1, h2.2.2.up hb⟩
theorem ResD.newAw (h : ResD V a b c A n ca C m cc r R w v) (hp : ∀ s', r = some s' → 0 < s'.sl.length ∧ 0 < s'.th.length) : AwD v r w.heap.size := by
  intro a1 b1 c1 A1 n1 ca1 C1 m1 cc1 R1 e s' hr
  subst hr
  obtain ⟨A', ca', C', cc', h1, h2, h3, hF⟩ := h
  rw [h1] at e
  injection e with e
  injection e with e
  injection e with e1 e2
  injection e1 with e1
  injection e1 with e1
  injection e1 with _ e1
  injection e1 with _ e1
  injection e1 with _ e1
  injection e1 with e1 e3
  injection e3 with e3 _
  injection e1 with e1
  injection e3 with e3
  subst e1 e3
  obtain ⟨p1, p2⟩ := hp s' rfl
  obtain ⟨b1, q1, -, q2, -⟩ := hF.sl p1
  obtain ⟨b2, q3, -, q4, -⟩ := hF.th p2
  constructor
  · intro x hx; rw [q1] at hx; injection hx with hx; injection hx with hx; omega
  · intro x hx; rw [q3] at hx; injection hx with hx; injection hx with hx; omega
end
/-- what a call hands back whose answer DoF or AnsF tells: the answer, away from what was there -/
theorem resD_of {V w w' : World} {a b c : Int} {A : Option Addr} {n ca : Nat} {C : Option Addr} {m cc : Nat} {r : Option St} {R : Value} {A' : Option Addr} {ca' : Nat} {C' : Option Addr} {cc' : Nat} (hV : V.heap.size ≤ w.heap.size)
    (hm : match r with | none => A' = A ∧ ca' = ca ∧ C' = C ∧ cc' = cc | some s' => n ≤ ca' ∧ m ≤ cc' ∧ Fsh w w' s' A' C') (hp : ∀ s', r = some s' → 0 < s'.sl.length ∧ 0 < s'.th.length) :
    ResD V a b c A n ca C m cc r R w' (.tuple #[.agg #[.int .i64 a, .int .i64 b, .int .i64 c, .slice A' n ca', .slice C' m cc'], R]) ∧ ∀ x, x < w.heap.size → AwD (.tuple #[.agg #[.int .i64 a, .int .i64 b, .int .i64 c, .slice A' n ca', .slice C' m cc'], R]) r x := by
  constructor
  · refine ⟨A', ca', C', cc', rfl, ?_⟩
    rcases r with _ | s'
    · exact hm
    · exact ⟨hm.1, hm.2.1, hm.2.2.base hV⟩
  · intro x hx a1 b1 c1 A1 n1 ca1 C1 m1 cc1 R1 e s' hr
    subst hr
    obtain ⟨-, -, hF⟩ := hm
    injection e with e
    injection e with e
    injection e with e1 e2
    injection e1 with e1
    injection e1 with e1
    injection e1 with _ e1
    injection e1 with _ e1
    injection e1 with _ e1
    injection e1 with e1 e3
    injection e3 with e3 _
    injection e1 with e1
    injection e3 with e3
    subst e1 e3
    obtain ⟨p1, p2⟩ := hp s' rfl
    obtain ⟨b1, q1, q2, -⟩ := hF.sl p1
    obtain ⟨b2, q3, q4, -⟩ := hF.th p2
    constructor
    · intro y hy; rw [q1] at hy; injection hy with hy; injection hy with hy; omega
    · intro y hy; rw [q3] at hy; injection hy with hy; injection hy with hy; omega
def ptr (x : Nat) : Value := .pointer (some ⟨x, 0, none⟩)
/-- two ways' lists, the ways, the call's answer, two boxes: those whose Bool is true have come up, with these values -/
structure RGF (V : World) (l1 l2 : List Int) (RD : World → Value → Prop) (AW : Value → Nat → Prop) (CQ CY : List Value) (fb1 fw1 fb2 fw2 fdo fq fy : Bool) (vb1 vw1 vb2 vw2 vdo vq vy : Value) (w : World) : Prop where
  b : Below V.heap.size V w
  i1 : fb1 = true → LisAt w vb1 l1
  w1 : fw1 = true → fb1 = true ∧ vw1 = .agg #[vb1]
  i2 : fb2 = true → LisAt w vb2 l2
  w2 : fw2 = true → fb2 = true ∧ vw2 = .agg #[vb2]
  d : fdo = true → RD w vdo
  q : fq = true → ∃ x, vq = ptr x ∧ Wbs V w x CQ
  y : fy = true → ∃ x, vy = ptr x ∧ Wbs V w x CY
  ne : fq = true → fy = true → vq ≠ vy
  aq : fq = true → fdo = true → ∀ x, vq = ptr x → AW vdo x
  ay : fy = true → fdo = true → ∀ x, vy = ptr x → AW vdo x
section
variable {V : World} {l1 l2 : List Int} {RD : World → Value → Prop} {AW : Value → Nat → Prop} {CQ CY : List Value} {fb1 fw1 fb2 fw2 fdo fq fy : Bool} {vb1 vw1 vb2 vw2 vdo vq vy : Value} {w w' : World}
theorem RGF.on (hRD : ∀ w w' v, RD w v → Below w.heap.size w w' → RD w' v) (h : RGF V l1 l2 RD AW CQ CY fb1 fw1 fb2 fw2 fdo fq fy vb1 vw1 vb2 vw2 vdo vq vy w) (hb : Below w.heap.size w w') : RGF V l1 l2 RD AW CQ CY fb1 fw1 fb2 fw2 fdo fq fy vb1 vw1 vb2 vw2 vdo vq vy w' :=
  ⟨below_on h.b hb, fun e => (h.i1 e).on hb, h.w1, fun e => (h.i2 e).on hb, h.w2, fun e => hRD _ _ _ (h.d e) hb, fun e => (h.q e).imp fun x p => ⟨p.1, p.2.on hb⟩, fun e => (h.y e).imp fun x p => ⟨p.1, p.2.on hb⟩, h.ne, h.aq, h.ay⟩
theorem RGF.addB1 (h : RGF V l1 l2 RD AW CQ CY false fw1 fb2 fw2 fdo fq fy vb1 vw1 vb2 vw2 vdo vq vy w) {v : Value} (hv : LisAt w v l1) : RGF V l1 l2 RD AW CQ CY true fw1 fb2 fw2 fdo fq fy v vw1 vb2 vw2 vdo vq vy w :=
  ⟨h.b, fun _ => hv, fun e => absurd (h.w1 e).1 (by decide), h.i2, h.w2, h.d, h.q, h.y, h.ne, h.aq, h.ay⟩
theorem RGF.addB2 (h : RGF V l1 l2 RD AW CQ CY fb1 fw1 false fw2 fdo fq fy vb1 vw1 vb2 vw2 vdo vq vy w) {v : Value} (hv : LisAt w v l2) : RGF V l1 l2 RD AW CQ CY fb1 fw1 true fw2 fdo fq fy vb1 vw1 v vw2 vdo vq vy w :=
  ⟨h.b, h.i1, h.w1, fun _ => hv, fun e => absurd (h.w2 e).1 (by decide), h.d, h.q, h.y, h.ne, h.aq, h.ay⟩
theorem RGF.addW1 (h : RGF V l1 l2 RD AW CQ CY fb1 fw1 fb2 fw2 fdo fq fy vb1 vw1 vb2 vw2 vdo vq vy w) (h1 : fb1 = true) {v : Value} (hv : v = .agg #[vb1]) : RGF V l1 l2 RD AW CQ CY fb1 true fb2 fw2 fdo fq fy vb1 v vb2 vw2 vdo vq vy w :=
  ⟨h.b, h.i1, fun _ => ⟨h1, hv⟩, h.i2, h.w2, h.d, h.q, h.y, h.ne, h.aq, h.ay⟩
theorem RGF.addW2 (h : RGF V l1 l2 RD AW CQ CY fb1 fw1 fb2 fw2 fdo fq fy vb1 vw1 vb2 vw2 vdo vq vy w) (h1 : fb2 = true) {v : Value} (hv : v = .agg #[vb2]) : RGF V l1 l2 RD AW CQ CY fb1 fw1 fb2 true fdo fq fy vb1 vw1 vb2 v vdo vq vy w :=
  ⟨h.b, h.i1, h.w1, h.i2, fun _ => ⟨h1, hv⟩, h.d, h.q, h.y, h.ne, h.aq, h.ay⟩
/-- the call: its answer is new, its world a later one -/
theorem RGF.addD (hRD : ∀ w w' v, RD w v → Below w.heap.size w w' → RD w' v) (h : RGF V l1 l2 RD AW CQ CY fb1 fw1 fb2 fw2 false fq fy vb1 vw1 vb2 vw2 vdo vq vy w) (hb : Below w.heap.size w w') {v : Value} (hd : RD w' v) (ha : ∀ x, x < w.heap.size → AW v x) : RGF V l1 l2 RD AW CQ CY fb1 fw1 fb2 fw2 true fq fy vb1 vw1 vb2 vw2 v vq vy w' := by
  have k := h.on hRD hb
  refine ⟨k.b, k.i1, k.w1, k.i2, k.w2, fun _ => hd, k.q, k.y, k.ne, fun e _ x hx => ha x ?_, fun e _ x hx => ha x ?_⟩
  · obtain ⟨y, h1, h2⟩ := h.q e
    rw [h1] at hx
    injection hx with hx; injection hx with hx; injection hx with hx
    rw [← hx]; exact h2.bx.lt
  · obtain ⟨y, h1, h2⟩ := h.y e
    rw [h1] at hx
    injection hx with hx; injection hx with hx; injection hx with hx
    rw [← hx]; exact h2.bx.lt
theorem RGF.addQ (hRD : ∀ w w' v, RD w v → Below w.heap.size w w' → RD w' v) (hAW : ∀ w v, RD w v → AW v w.heap.size) (h : RGF V l1 l2 RD AW CQ CY fb1 fw1 fb2 fw2 fdo false fy vb1 vw1 vb2 vw2 vdo vq vy w) (t : TypeId) : RGF V l1 l2 RD AW CQ CY fb1 fw1 fb2 fw2 fdo true fy vb1 vw1 vb2 vw2 vdo (ptr w.heap.size) vy (w.alloc (.cells CQ.toArray t)) := by
  have k := h.on hRD (below_alloc w (.cells CQ.toArray t))
  refine ⟨k.b, k.i1, k.w1, k.i2, k.w2, k.d, fun _ => ⟨_, rfl, Wbs.more h.b CQ t⟩, k.y, fun _ e q => ?_, fun _ e x hx => ?_, k.ay⟩
  · obtain ⟨y, h1, h2⟩ := h.y e
    rw [h1] at q
    injection q with q; injection q with q; injection q with q
    have := h2.bx.lt
    omega
  · injection hx with hx; injection hx with hx; injection hx with hx
    rw [← hx]
    exact hAW _ _ (h.d e)
theorem RGF.addY (hRD : ∀ w w' v, RD w v → Below w.heap.size w w' → RD w' v) (hAW : ∀ w v, RD w v → AW v w.heap.size) (h : RGF V l1 l2 RD AW CQ CY fb1 fw1 fb2 fw2 fdo fq false vb1 vw1 vb2 vw2 vdo vq vy w) (t : TypeId) : RGF V l1 l2 RD AW CQ CY fb1 fw1 fb2 fw2 fdo fq true vb1 vw1 vb2 vw2 vdo vq (ptr w.heap.size) (w.alloc (.cells CY.toArray t)) := by
  have k := h.on hRD (below_alloc w (.cells CY.toArray t))
  refine ⟨k.b, k.i1, k.w1, k.i2, k.w2, k.d, k.q, fun _ => ⟨_, rfl, Wbs.more h.b CY t⟩, fun e _ q => ?_, k.aq, fun _ e x hx => ?_⟩
  · obtain ⟨y, h1, h2⟩ := h.q e
    rw [h1] at q
    injection q with q; injection q with q; injection q with q
    have := h2.bx.lt
    omega
  · injection hx with hx; injection hx with hx; injection hx with hx
    rw [← hx]
    exact hAW _ _ (h.d e)
end
/-- an answer's state behind a store into a box that is away from it -/
theorem Fsh.far {V w w' : World} {s : St} {A C : Option Addr} {x : Nat} (h : Fsh V w s A C) (f : Fnd w w' x) (hA : farA A x) (hC : farA C x) : Fsh V w' s A C :=
  ⟨⟨h.lies.sl.fnd f fun h0 => by obtain ⟨b, h1, -⟩ := h.sl h0; exact ⟨b, h1, hA b h1⟩, h.lies.th.fnd f fun h0 => by obtain ⟨b, h1, -⟩ := h.th h0; exact ⟨b, h1, hC b h1⟩⟩,
   fun h0 => by obtain ⟨b, h1, h2, h3, h4⟩ := h.sl h0; exact ⟨b, h1, h2, Nat.lt_of_lt_of_le h3 f.size, fun j => by rw [World.frozen?_of_block (w := w) (a := ⟨b, j, none⟩) (f.block b h3 (hA b h1))]; exact h4 j⟩,
   fun h0 => by obtain ⟨b, h1, h2, h3, h4⟩ := h.th h0; exact ⟨b, h1, h2, Nat.lt_of_lt_of_le h3 f.size, fun j => by rw [World.frozen?_of_block (w := w) (a := ⟨b, j, none⟩) (f.block b h3 (hC b h1))]; exact h4 j⟩, h.ne⟩
theorem lis_one (w : World) (z : Int) : LisAt (w.alloc (.cells #[.int .i64 z] 3)) (.slice (some ⟨w.heap.size, 0, none⟩) 1 1) [z] := ⟨_, 1, 1, rfl, rfl, Nat.le_refl _, one_at w z⟩
end Go.Proofs.YtkpbfbmkolgmgaaGreat
