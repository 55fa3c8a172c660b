/-
  What the program's calls answer, gathered: the laws are walked over it. Condition: the forest lies in memory, at most a million places.
-/
import Derived.Test.YtigljoafmefbnaaEd
namespace Go.Proofs.Ytigljoafmefbnaa
open Go.RowKit

/-- a call that hands back a list -/
def ListF (w w' : World) (e : Ending) (L : List Int) : Prop := ∃ B cb, e = .returned (.slice B L.length cb) ∧ L.length ≤ cb ∧ IntsAt w' w'.heap.size B L ∧ Below w.heap.size w w'
/-- a call that hands back a forest, and whether it is one -/
def GivesF (w w' : World) (e : Ending) (r : Option (List Int)) : Prop := ∃ B cb, e = .returned (.tuple #[.agg #[.slice B (r.getD []).length cb], .bool r.isSome]) ∧ (r.getD []).length ≤ cb ∧ IntsAt w' w'.heap.size B (r.getD []) ∧ Below w.heap.size w w'
/-- what each call answers, of any forest of at most a million places -/
structure Con : Prop where
  good : ∀ {A : Option Addr} {n cap : Nat} {l : List Int} {w : World}, n = l.length → n ≤ cap → n ≤ 1000000 → IntsAt w w.heap.size A l → ∀ {g : Bool}, fgood l = g → Calls Try.prog 13 #[.agg #[.slice A n cap]] w fun e w' => e = .returned (.bool g) ∧ Below w.heap.size w w'
  depth : ∀ {A : Option Addr} {n cap : Nat} {l : List Int} {w : World}, n = l.length → n ≤ cap → n ≤ 1000000 → IntsAt w w.heap.size A l → ∀ {i d : Int}, fdepth l i = d → Calls Try.prog 14 #[.agg #[.slice A n cap], .int .i64 i] w fun e w' => e = .returned (.int .i64 d) ∧ Below w.heap.size w w'
  kids : ∀ {A : Option Addr} {n cap : Nat} {l : List Int} {w : World}, n = l.length → n ≤ cap → n ≤ 1000000 → IntsAt w w.heap.size A l → ∀ {i : Int} {L : List Int}, fkids l i = L → Calls Try.prog 19 #[.agg #[.slice A n cap], .int .i64 i] w fun e w' => ListF w w' e L
  below : ∀ {A : Option Addr} {n cap : Nat} {l : List Int} {w : World}, n = l.length → n ≤ cap → n ≤ 1000000 → IntsAt w w.heap.size A l → ∀ {i : Int} {L : List Int}, fbelow l i = L → Calls Try.prog 16 #[.agg #[.slice A n cap], .int .i64 i] w fun e w' => ListF w w' e L
  order : ∀ {A : Option Addr} {n cap : Nat} {l : List Int} {w : World}, n = l.length → n ≤ cap → n ≤ 1000000 → IntsAt w w.heap.size A l → ∀ {L : List Int}, forder l = L → Calls Try.prog 15 #[.agg #[.slice A n cap]] w fun e w' => ListF w w' e L
  add : ∀ {A : Option Addr} {n cap : Nat} {l : List Int} {w : World}, n = l.length → n ≤ cap → n ≤ 1000000 → IntsAt w w.heap.size A l → ∀ {i k : Int} {r : Option (List Int)}, fadd l i k = r → Calls Try.prog 10 #[.agg #[.slice A n cap], .int .i64 i, .int .i64 k] w fun e w' => GivesF w w' e r
  drop : ∀ {A : Option Addr} {n cap : Nat} {l : List Int} {w : World}, n = l.length → n ≤ cap → n ≤ 1000000 → IntsAt w w.heap.size A l → ∀ {i : Int} {r : Option (List Int)}, fdrop l i = r → Calls Try.prog 11 #[.agg #[.slice A n cap], .int .i64 i] w fun e w' => GivesF w w' e r
  move : ∀ {A : Option Addr} {n cap : Nat} {l : List Int} {w : World}, n = l.length → n ≤ cap → n ≤ 1000000 → IntsAt w w.heap.size A l → ∀ {i k : Int} {r : Option (List Int)}, fmove l i k = r → Calls Try.prog 17 #[.agg #[.slice A n cap], .int .i64 i, .int .i64 k] w fun e w' => GivesF w w' e r
  prune : ∀ {A : Option Addr} {n cap : Nat} {l : List Int} {w : World}, n = l.length → n ≤ cap → n ≤ 1000000 → IntsAt w w.heap.size A l → ∀ {i : Int} {r : Option (List Int)}, fprune l i = r → Calls Try.prog 12 #[.agg #[.slice A n cap], .int .i64 i] w fun e w' => GivesF w w' e r
end Go.Proofs.Ytigljoafmefbnaa
