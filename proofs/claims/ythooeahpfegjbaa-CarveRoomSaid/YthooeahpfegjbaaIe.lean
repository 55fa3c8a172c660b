/-
  What the program's calls answer, gathered; the walks of the reference's PutThing, Cost and NewThing. Condition: the words lie in memory.
-/
import Derived.Test.YthooeahpfegjbaaEx
namespace Go.Proofs.Ythooeahpfegjbaa
open Go.RowKit

/-- a call that hands back words -/
def WListF (w w' : World) (e : Ending) (L : List Nat) : Prop := ∃ B cb, e = .returned (.slice B L.length cb) ∧ L.length ≤ cb ∧ WordsAt w' w'.heap.size B L ∧ Below w.heap.size w w'
theorem WListF.to {w w' : World} {e : Ending} {L : List Nat} {n : Nat} (h : WListF w w' e L) (hn : n = L.length) : ∃ B cb, e = .returned (.slice B n cb) ∧ n ≤ cb ∧ WordsAt w' w'.heap.size B L ∧ Below w.heap.size w w' := hn ▸ h
def tv (r : Option Tng) : Value := .tuple #[(r.getD .zero).val, .bool r.isSome]
def cv (r : Option Int) : Value := .tuple #[.int .i64 (r.getD 0), .bool r.isSome]
/-! ### PutThing -/
theorem tw64 {x : Int} (h1 : -9223372036854775808 ≤ x) (h2 : x < 9223372036854775808) : wrap64 x = x := by unfold wrap64; omega
theorem tu64 {z : Int} (h1 : 0 ≤ z) (h2 : z < 18446744073709551616) : IntKind.u64.wrap z = z := by
  unfold IntKind.wrap
  simp only [show IntKind.u64.signed = false from rfl, show IntKind.u64.bits = 64 from rfl, Bool.false_and, Bool.false_eq_true, if_false]
  omega
theorem put_w0 {ty bits base size used frm badge : Int} {full : Bool} {word d0 d1 d2 d3 : Nat} (h : Smallth ⟨ty, bits, base, size, used, frm, badge, full, word, d0, d1, d2, d3⟩) (hf : full = false) :
    IntKind.u64.wrap (wrap64 (wrap64 (wrap64 (wrap64 (ty + wrap64 (bits * 256)) + wrap64 (base * 65536))) + wrap64 (wrap64 (frm * 65536) * 65536))) = ((Tng.w0 ⟨ty, bits, base, size, used, frm, badge, full, word, d0, d1, d2, d3⟩ : Nat) : Int) := by
  subst hf
  obtain ⟨⟨a1, a2⟩, ⟨b1, b2⟩, ⟨c1, c2⟩, _, _, ⟨g1, g2⟩, _⟩ := h
  simp only at a1 a2 b1 b2 c1 c2 g1 g2
  rw [tw64 (x := bits * 256) (by omega) (by omega), tw64 (x := ty + bits * 256) (by omega) (by omega), tw64 (x := base * 65536) (by omega) (by omega), tw64 (x := ty + bits * 256 + base * 65536) (by omega) (by omega), tw64 (x := ty + bits * 256 + base * 65536) (by omega) (by omega), tw64 (x := frm * 65536) (by omega) (by omega), tw64 (x := frm * 65536 * 65536) (by omega) (by omega), tw64 (by omega) (by omega), tu64 (by omega) (by omega), Tng.w0]
  simp only [Bool.false_eq_true, if_false]
  omega
theorem put_w0' {ty bits base size used frm badge : Int} {full : Bool} {word d0 d1 d2 d3 : Nat} (h : Smallth ⟨ty, bits, base, size, used, frm, badge, full, word, d0, d1, d2, d3⟩) (hf : full = true) :
    IntKind.u64.wrap (wrap64 (wrap64 (wrap64 (wrap64 (ty + wrap64 (bits * 256)) + wrap64 (base * 65536)) + 16777216) + wrap64 (wrap64 (frm * 65536) * 65536))) = ((Tng.w0 ⟨ty, bits, base, size, used, frm, badge, full, word, d0, d1, d2, d3⟩ : Nat) : Int) := by
  subst hf
  obtain ⟨⟨a1, a2⟩, ⟨b1, b2⟩, ⟨c1, c2⟩, _, _, ⟨g1, g2⟩, _⟩ := h
  simp only at a1 a2 b1 b2 c1 c2 g1 g2
  rw [tw64 (x := bits * 256) (by omega) (by omega), tw64 (x := ty + bits * 256) (by omega) (by omega), tw64 (x := base * 65536) (by omega) (by omega), tw64 (x := ty + bits * 256 + base * 65536) (by omega) (by omega), tw64 (x := ty + bits * 256 + base * 65536 + 16777216) (by omega) (by omega), tw64 (x := frm * 65536) (by omega) (by omega), tw64 (x := frm * 65536 * 65536) (by omega) (by omega), tw64 (by omega) (by omega), tu64 (by omega) (by omega), Tng.w0]
  simp only [if_true]
  omega
theorem put_w1 {ty bits base size used frm badge : Int} {full : Bool} {word d0 d1 d2 d3 : Nat} (h : Smallth ⟨ty, bits, base, size, used, frm, badge, full, word, d0, d1, d2, d3⟩) :
    IntKind.u64.wrap (wrap64 (wrap64 (size + wrap64 (used * 65536)) + wrap64 (wrap64 (badge * 65536) * 65536))) = ((Tng.w1 ⟨ty, bits, base, size, used, frm, badge, full, word, d0, d1, d2, d3⟩ : Nat) : Int) := by
  obtain ⟨_, _, _, ⟨a1, a2⟩, ⟨b1, b2⟩, _, ⟨c1, c2⟩⟩ := h
  simp only at a1 a2 b1 b2 c1 c2
  rw [tw64 (x := used * 65536) (by omega) (by omega), tw64 (x := size + used * 65536) (by omega) (by omega), tw64 (x := badge * 65536) (by omega) (by omega), tw64 (x := badge * 65536 * 65536) (by omega) (by omega), tw64 (by omega) (by omega), tu64 (by omega) (by omega), Tng.w1]
  show size + used * 65536 + badge * 65536 * 65536 = (((size + used * 65536 + badge * 65536 * 65536).toNat : Nat) : Int)
  omega
theorem put_list {w0 w : World} {t : Tng} {x y : Int} {L : List Nat} (hE : L = t.words) (hO : Below w0.heap.size w0 w) (hx : x = (t.w0 : Int)) (hy : y = (t.w1 : Int)) :
    WListF w0 (w.alloc (.cells #[.int .u64 x, .int .u64 y, .int .u64 (t.word : Int), .int .u64 (t.d0 : Int), .int .u64 (t.d1 : Int), .int .u64 (t.d2 : Int), .int .u64 (t.d3 : Int), .int .u64 0] 42)) (.returned (.slice (some ⟨w.heap.size, 0, none⟩) 8 8)) L := by
  subst hE hx hy
  exact ⟨_, 8, rfl, Nat.le_refl _, lit_words' w t.words 42 _ rfl, below_on hO (below_alloc _ _)⟩
/-! ### Cost -/
end Go.Proofs.Ythooeahpfegjbaa
