/-
  The walk of the reference's Same: two states held against each other. Condition: both lie in memory, at most a thousand slots and things.
-/
import Derived.Test.YthooeahpfegjbaaJg
namespace Go.Proofs.Ythooeahpfegjbaa
open Go.RowKit

def Sl.val (x : Sl) : Value := .agg #[.int .i64 x.c.ty, .int .i64 x.c.th, .int .i64 x.c.ri, .int .i64 x.c.ba, .int .i64 x.up]
theorem sl_ext {l m : List Sl} (h : l.length = m.length) (e : ∀ j, j < l.length → slAt l j = slAt m j) : l = m := by
  refine List.ext_getElem? fun j => ?_
  rcases Nat.lt_or_ge j l.length with hj | hj
  · rw [slAt_get hj, slAt_get (h ▸ hj), e j hj]
  · rw [List.getElem?_eq_none hj, List.getElem?_eq_none (h ▸ hj)]
theorem th_ext {l m : List Tng} (h : l.length = m.length) (e : ∀ j, j < l.length → thAt l j = thAt m j) : l = m := by
  refine List.ext_getElem? fun j => ?_
  rcases Nat.lt_or_ge j l.length with hj | hj
  · rw [thAt_get hj, thAt_get (h ▸ hj), e j hj]
  · rw [List.getElem?_eq_none hj, List.getElem?_eq_none (h ▸ hj)]
/-- two states' boxes -/
structure Two (W w : World) (g h : Nat) (a b c : Int) (A : Option Addr) (n ca : Nat) (C : Option Addr) (m cc : Nat) (a' b' c' : Int) (A' : Option Addr) (n' ca' : Nat) (C' : Option Addr) (m' cc' : Nat) : Prop where
  x : Sbx W w g a b c A n ca C m cc
  y : Sbx W w h a' b' c' A' n' ca' C' m' cc'
theorem Two.on {W w w' : World} {g h : Nat} {a b c : Int} {A : Option Addr} {n ca : Nat} {C : Option Addr} {m cc : Nat} {a' b' c' : Int} {A' : Option Addr} {n' ca' : Nat} {C' : Option Addr} {m' cc' : Nat} (k : Two W w g h a b c A n ca C m cc a' b' c' A' n' ca' C' m' cc') (hb : Below w.heap.size w w') : Two W w' g h a b c A n ca C m cc a' b' c' A' n' ca' C' m' cc' := ⟨k.x.on hb, k.y.on hb⟩
theorem Sbx.also {W w : World} (h : Below W.heap.size W w) (a b c : Int) (A : Option Addr) (n ca : Nat) (C : Option Addr) (m cc : Nat) (t : TypeId) : Sbx W (w.alloc (.cells #[.int .i64 a, .int .i64 b, .int .i64 c, .slice A n ca, .slice C m cc] t)) w.heap.size a b c A n ca C m cc := by
  have k := Sbx.new w a b c A n ca C m cc t
  exact ⟨k.c0, k.c1, k.c2, k.c3, k.c4, below_on h k.old, h.size, k.lt⟩
def SaRel {α : Type} (W : World) (g h : Nat) (a b c : Int) (A : Option Addr) (n ca : Nat) (C : Option Addr) (m cc : Nat) (a' b' c' : Int) (A' : Option Addr) (n' ca' : Nat) (C' : Option Addr) (m' cc' : Nat) (N : Nat) (P Q : Nat → α) (f : Nat) (p : Value) (wr : World) : Prop :=
  ∃ i : Nat, f + i = N ∧ p = .int .i64 i ∧ (∀ j, j < i → P j = Q j) ∧ Two W wr g h a b c A n ca C m cc a' b' c' A' n' ca' C' m' cc'
end Go.Proofs.Ythooeahpfegjbaa
