/-
  What the program's calls on states answer, gathered; the laws' heavy and awake walked over it. Condition: states lie in memory.
-/
import Derived.Test.YthooeahpfegjbaaJk
import Derived.Test.YthooeahpfegjbaaJm
namespace Go.Proofs.Ythooeahpfegjbaa
open Go.RowKit

/-- a state of the call's own: its lists are new, and may be written -/
structure Fsh (W w : World) (s : St) (A C : Option Addr) : Prop where
  lies : StAt w s A C
  sl : 0 < s.sl.length → ∃ b, A = some ⟨b, 0, none⟩ ∧ W.heap.size ≤ b ∧ b < w.heap.size ∧ ∀ k, w.frozen? ⟨b, k, none⟩ = false
  th : 0 < s.th.length → ∃ b, C = some ⟨b, 0, none⟩ ∧ W.heap.size ≤ b ∧ b < w.heap.size ∧ ∀ k, w.frozen? ⟨b, k, none⟩ = false
  ne : 0 < s.sl.length → 0 < s.th.length → A ≠ C
/-- a new state, or the error -/
def NewF (w w' : World) (e : Ending) : Option St → Prop
  | none => ∃ A ca C cc, e = .returned (.tuple #[.agg #[.int .i64 0, .int .i64 0, .int .i64 0, .slice A 0 ca, .slice C 0 cc], .int .i64 1]) ∧ Below w.heap.size w w'
  | some s => ∃ A ca C cc, e = .returned (.tuple #[.agg #[.int .i64 s.g.t, .int .i64 s.g.s, .int .i64 s.g.k, .slice A s.sl.length ca, .slice C s.th.length cc], .int .i64 0]) ∧ s.sl.length ≤ ca ∧ s.th.length ≤ cc ∧ Fsh w w' s A C ∧ Below w.heap.size w w'
/-- another one, alike -/
def CloneF (w w' : World) (e : Ending) (a b c : Int) (n m : Nat) (s : St) : Prop := ∃ A ca C cc, e = .returned (.agg #[.int .i64 a, .int .i64 b, .int .i64 c, .slice A n ca, .slice C m cc]) ∧ n ≤ ca ∧ m ≤ cc ∧ Fsh w w' s A C ∧ Below w.heap.size w w'
def ForestF (w w' : World) (e : Ending) (L : List Int) : Prop := ∃ B cb, e = .returned (.agg #[.slice B L.length cb]) ∧ L.length ≤ cb ∧ IntsAt w' w'.heap.size B L ∧ Below w.heap.size w w'
/-- how a state is handed over -/
structure StH (w : World) (s : St) (a b c : Int) (A : Option Addr) (n ca : Nat) (C : Option Addr) (m cc : Nat) : Prop where
  lies : StAt w s A C
  hg : s.g = ⟨a, b, c⟩
  hn : n = s.sl.length
  hm : m = s.th.length
  few : n ≤ 1000
  fewm : m ≤ 1000
  hca : n ≤ ca
  hcc : m ≤ cc
theorem StH.on {w w' : World} {s : St} {a b c : Int} {A : Option Addr} {n ca : Nat} {C : Option Addr} {m cc : Nat} (h : StH w s a b c A n ca C m cc) (hb : Below w.heap.size w w') : StH w' s a b c A n ca C m cc := ⟨h.lies.on hb, h.hg, h.hn, h.hm, h.few, h.fewm, h.hca, h.hcc⟩
/-! ### heavy -/
/-! ### awake -/
def s64 : St := snewS ⟨2, 32, 16⟩ 64
theorem s64_new : snew ⟨2, 32, 16⟩ 64 = some s64 := by
  rw [snew, if_pos ⟨by decide +kernel, by decide +kernel⟩]
  rfl
theorem s64_good : sgood s64 = true := snew_good (by decide +kernel) (by decide +kernel)
theorem s64_slots : s64.sl.length = 32 := by decide +kernel
theorem s64_things : s64.th.length = 16 := by decide +kernel
theorem s64_geo : s64.g = ⟨2, 32, 16⟩ := rfl
def nonempty (l : List Sl) (i : Nat) : Bool := !(slAt l i).c.non
theorem s64_full : (pick (nonempty s64.sl) 32).length = 3 := by decide +kernel
def AwRel (V : World) (n : Nat) (l : List Sl) (f : Nat) (p q : Value) (wr : World) : Prop :=
  ∃ i : Nat, f + i = n ∧ p = .int .i64 ((pick (nonempty l) i).length : Int) ∧ q = .int .i64 i ∧ Below V.heap.size V wr
end Go.Proofs.Ythooeahpfegjbaa
