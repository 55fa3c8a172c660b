/-
  No cell of these rows narrows 'for every input' (looked for: loops, veiled, ifaces, maps, wideKeys, modest, calm, conditions, laid).
  DERIVED. THE GIVEN ROWS OF THIS SEAT. 4 by the template 'for every input the law returns true; each argument reads behind the call as it read before'; 0 by the template 'total and deterministic' (their statements: YteadkcekoccmdaaTotals.lean).
  GIVEN WITH THE SEED: the statements are not yours to turn. If you find one false, say at which input.
  Laid BY PROGRAM, IN A SANDBOX (cutbox-rows.mjs): the forced cells as the released guide's own fill.sh prints them over the translation 3abe14a036f8be20… (all of the seat's roots in one cut). By AI agents, Wed Nov 11 2026. No macro, syntax, notation, axiom, sorry.
-/
import Derived.Test.YteadkcekoccmdaaChecked
import GoSem.Claim
import GoSem.ClaimJoined
import GoSem.ClaimMapViews
import Derived.JoinedTies
import Derived.KernelRfl
namespace Go.Proofs.Yteadkcekoccmdaa
/- THE CELL 'sum', in the pinned program and in every row, IS THE sha256 OF THE DUMP (.gsa) THAT YteadkcekoccmdaaProg.lean LOADS. Nothing in Lean hashes anything: it is a label: what it is worth is what the hold of that sum in a sandbox is worth. -/
noncomputable def Try.pinned : Pinned := { name := "yteadkcekoccmdaa", sum := "3abe14a036f8be20e2bfb9b8305d2d3173357b4b115ed77a785e52c9d64911cd", checked := Try.checked }
namespace Rows
def none {H : Type} : Left H := { results := [], args := [] }

/-- 'reevelaw6.SuperKnown': WHATEVER THE INPUT: true; the input reads as it did. -/
def superKnownSpec : ChangeSpec := { name := "superKnown", fn := fun _ => fun
  | [] => { results := [.lit (.bool true)], args := [] }
  | _ => none }
def superKnownRow : OpenClaim := { program := "yteadkcekoccmdaa", sum := "3abe14a036f8be20e2bfb9b8305d2d3173357b4b115ed77a785e52c9d64911cd", func := "reeve/reevelaw6.SuperKnown", spec := "superKnown", inPlace := ["math.Float64bits"], apart := false }
def SuperKnownSaid : Prop := superKnownRow.holds Try.pinned (OpenSpec.ofChange superKnownSpec)

/-- ITS FALSE NEIGHBOUR: 'it returns false'. Refute it at one input. -/
def superKnownWrong : ChangeSpec := { name := "superKnown", fn := fun _ => fun
  | [] => { results := [.lit (.bool false)], args := [] }
  | _ => none }
def SuperKnownWrongFalsely : Prop := superKnownRow.holds Try.pinned (OpenSpec.ofChange superKnownWrong)

/-- 'reevelaw6.SuperSays': WHATEVER THE INPUT: true; the input reads as it did. -/
def superSaysSpec : ChangeSpec := { name := "superSays", fn := fun _ => fun
  | [d1, d2] => { results := [.lit (.bool true)], args := [d1, d2] }
  | _ => none }
def superSaysRow : OpenClaim := { program := "yteadkcekoccmdaa", sum := "3abe14a036f8be20e2bfb9b8305d2d3173357b4b115ed77a785e52c9d64911cd", func := "reeve/reevelaw6.SuperSays", spec := "superSays", inPlace := ["math.Float64bits"], apart := false }
def SuperSaysSaid : Prop := superSaysRow.holds Try.pinned (OpenSpec.ofChange superSaysSpec)

/-- ITS FALSE NEIGHBOUR: 'it returns false'. Refute it at one input. -/
def superSaysWrong : ChangeSpec := { name := "superSays", fn := fun _ => fun
  | [d1, d2] => { results := [.lit (.bool false)], args := [d1, d2] }
  | _ => none }
def SuperSaysWrongFalsely : Prop := superSaysRow.holds Try.pinned (OpenSpec.ofChange superSaysWrong)

/-- 'reevelaw6.SuperTurned': WHATEVER THE INPUT: true; the input reads as it did. -/
def superTurnedSpec : ChangeSpec := { name := "superTurned", fn := fun _ => fun
  | [d1, d2, d3, d4] => { results := [.lit (.bool true)], args := [d1, d2, d3, d4] }
  | _ => none }
def superTurnedRow : OpenClaim := { program := "yteadkcekoccmdaa", sum := "3abe14a036f8be20e2bfb9b8305d2d3173357b4b115ed77a785e52c9d64911cd", func := "reeve/reevelaw6.SuperTurned", spec := "superTurned", inPlace := ["math.Float64bits"], apart := false }
def SuperTurnedSaid : Prop := superTurnedRow.holds Try.pinned (OpenSpec.ofChange superTurnedSpec)

/-- ITS FALSE NEIGHBOUR: 'it returns false'. Refute it at one input. -/
def superTurnedWrong : ChangeSpec := { name := "superTurned", fn := fun _ => fun
  | [d1, d2, d3, d4] => { results := [.lit (.bool false)], args := [d1, d2, d3, d4] }
  | _ => none }
def SuperTurnedWrongFalsely : Prop := superTurnedRow.holds Try.pinned (OpenSpec.ofChange superTurnedWrong)

/-- 'reevelaw6.SuperFinds': WHATEVER THE INPUT: true; the input reads as it did. -/
def superFindsSpec : ChangeSpec := { name := "superFinds", fn := fun _ => fun
  | [d1, d2, d3, d4] => { results := [.lit (.bool true)], args := [d1, d2, d3, d4] }
  | _ => none }
def superFindsRow : OpenClaim := { program := "yteadkcekoccmdaa", sum := "3abe14a036f8be20e2bfb9b8305d2d3173357b4b115ed77a785e52c9d64911cd", func := "reeve/reevelaw6.SuperFinds", spec := "superFinds", inPlace := ["math.Float64bits"], apart := false }
def SuperFindsSaid : Prop := superFindsRow.holds Try.pinned (OpenSpec.ofChange superFindsSpec)

/-- ITS FALSE NEIGHBOUR: 'it returns false'. Refute it at one input. -/
def superFindsWrong : ChangeSpec := { name := "superFinds", fn := fun _ => fun
  | [d1, d2, d3, d4] => { results := [.lit (.bool false)], args := [d1, d2, d3, d4] }
  | _ => none }
def SuperFindsWrongFalsely : Prop := superFindsRow.holds Try.pinned (OpenSpec.ofChange superFindsWrong)

/- THE SECOND FORM. 'bulk': how many values and letters a reading holds, each counted each time it is reached (what is shared counts as often as it is met; a slice's spare places count too). A statement '..UptoSaid' is the law's where the arguments, and the package variables that the reading takes, are together of bulk at most 1048576: NARROWER than '..Said'. Prove '..Said' where nothing that the law and all that it calls make is longer than what came in: it says more and counts as full. Else prove '..UptoSaid'. A law counts once. -/
mutual
def uptoBulk {H : Type} : DataW H → Nat
  | .lit (.string bytes) => bytes.length + 1
  | .lit _ => 1
  | .nil => 1
  | .ptr d => uptoBulk d + 1
  | .slice elems spare => uptoBulkAll elems + uptoBulkAll spare + 1
  | .agg parts => uptoBulkAll parts + 1
  | .iface _ d => uptoBulk d + 1
  | .map entries => uptoBulkEntries entries + 1
  | .held _ => 1
def uptoBulkAll {H : Type} : List (DataW H) → Nat
  | [] => 0
  | d :: r => uptoBulk d + uptoBulkAll r
def uptoBulkEntries {H : Type} : List (Lit × DataW H) → Nat
  | [] => 0
  | x :: r => uptoBulkEntry x + uptoBulkEntries r
def uptoBulkEntry {H : Type} : Lit × DataW H → Nat
  | (.string bytes, d) => bytes.length + uptoBulk d + 1
  | (_, d) => uptoBulk d + 1
 end
def uptoSmall : (H : Type) → List (DataW H) → Bool := fun _ ds => decide (uptoBulkAll ds ≤ 1048576)
def OpenSpec.upto (s : _root_.Go.ChangeSpec) : _root_.Go.OpenSpec := { _root_.Go.OpenSpec.ofChange s with cond := some uptoSmall }

/-- 'reevelaw6.SuperKnown', WHERE WHAT IT READS IS OF BULK AT MOST 1048576: true; the input reads as it did. -/
def superKnownUptoRow : OpenClaim := { program := "yteadkcekoccmdaa", sum := "3abe14a036f8be20e2bfb9b8305d2d3173357b4b115ed77a785e52c9d64911cd", func := "reeve/reevelaw6.SuperKnown", spec := "superKnown", inPlace := ["math.Float64bits"], apart := false, narrowed := true }
def SuperKnownUptoSaid : Prop := superKnownUptoRow.holds Try.pinned (OpenSpec.upto superKnownSpec)

/-- 'reevelaw6.SuperSays', WHERE WHAT IT READS IS OF BULK AT MOST 1048576: true; the input reads as it did. -/
def superSaysUptoRow : OpenClaim := { program := "yteadkcekoccmdaa", sum := "3abe14a036f8be20e2bfb9b8305d2d3173357b4b115ed77a785e52c9d64911cd", func := "reeve/reevelaw6.SuperSays", spec := "superSays", inPlace := ["math.Float64bits"], apart := false, narrowed := true }
def SuperSaysUptoSaid : Prop := superSaysUptoRow.holds Try.pinned (OpenSpec.upto superSaysSpec)

/-- 'reevelaw6.SuperTurned', WHERE WHAT IT READS IS OF BULK AT MOST 1048576: true; the input reads as it did. -/
def superTurnedUptoRow : OpenClaim := { program := "yteadkcekoccmdaa", sum := "3abe14a036f8be20e2bfb9b8305d2d3173357b4b115ed77a785e52c9d64911cd", func := "reeve/reevelaw6.SuperTurned", spec := "superTurned", inPlace := ["math.Float64bits"], apart := false, narrowed := true }
def SuperTurnedUptoSaid : Prop := superTurnedUptoRow.holds Try.pinned (OpenSpec.upto superTurnedSpec)

/-- 'reevelaw6.SuperFinds', WHERE WHAT IT READS IS OF BULK AT MOST 1048576: true; the input reads as it did. -/
def superFindsUptoRow : OpenClaim := { program := "yteadkcekoccmdaa", sum := "3abe14a036f8be20e2bfb9b8305d2d3173357b4b115ed77a785e52c9d64911cd", func := "reeve/reevelaw6.SuperFinds", spec := "superFinds", inPlace := ["math.Float64bits"], apart := false, narrowed := true }
def SuperFindsUptoSaid : Prop := superFindsUptoRow.holds Try.pinned (OpenSpec.upto superFindsSpec)

end Rows
end Go.Proofs.Yteadkcekoccmdaa
