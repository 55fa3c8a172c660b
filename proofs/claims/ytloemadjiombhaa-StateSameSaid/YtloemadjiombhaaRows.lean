/-
  No cell of these rows narrows 'for every input' (looked for: loops, veiled, ifaces, maps, wideKeys, modest, calm, conditions, laid).
  DERIVED. THE GIVEN ROWS OF THIS SEAT. 5 by the template 'for every input the law returns true; each argument reads behind the call as it read before'; 0 by the template 'total and deterministic' (their statements: YtloemadjiombhaaTotals.lean).
  GIVEN WITH THE SEED: the statements are not yours to turn. If you find one false, say at which input.
  Laid BY PROGRAM, IN A SANDBOX (cutbox-rows.mjs): the forced cells as the released guide's own fill.sh prints them over the translation 655fa055e1881682… (all of the seat's roots in one cut). By AI agents, Wed Nov 11 2026. No macro, syntax, notation, axiom, sorry.
-/
import Derived.Test.YtloemadjiombhaaChecked
import GoSem.Claim
import GoSem.ClaimJoined
import GoSem.ClaimMapViews
import Derived.JoinedTies
import Derived.KernelRfl
namespace Go.Proofs.Ytloemadjiombhaa
/- THE CELL 'sum', in the pinned program and in every row, IS THE sha256 OF THE DUMP (.gsa) THAT YtloemadjiombhaaProg.lean LOADS. Nothing in Lean hashes anything: it is a label: what it is worth is what the hold of that sum in a sandbox is worth. -/
noncomputable def Try.pinned : Pinned := { name := "ytloemadjiombhaa", sum := "655fa055e1881682c78b8d37312332920328a4f756616c94311510d129565df3", checked := Try.checked }
namespace Rows
def none {H : Type} : Left H := { results := [], args := [] }

/-- 'reevelaw12.StateKnown': WHATEVER THE INPUT: true; the input reads as it did. -/
def stateKnownSpec : ChangeSpec := { name := "stateKnown", fn := fun _ => fun
  | [] => { results := [.lit (.bool true)], args := [] }
  | _ => none }
def stateKnownRow : OpenClaim := { program := "ytloemadjiombhaa", sum := "655fa055e1881682c78b8d37312332920328a4f756616c94311510d129565df3", func := "reeve/reevelaw12.StateKnown", spec := "stateKnown", recurses := true, apart := false }
def StateKnownSaid : Prop := stateKnownRow.holds Try.pinned (OpenSpec.ofChange stateKnownSpec)

/-- ITS FALSE NEIGHBOUR: 'it returns false'. Refute it at one input. -/
def stateKnownWrong : ChangeSpec := { name := "stateKnown", fn := fun _ => fun
  | [] => { results := [.lit (.bool false)], args := [] }
  | _ => none }
def StateKnownWrongFalsely : Prop := stateKnownRow.holds Try.pinned (OpenSpec.ofChange stateKnownWrong)

/-- 'reevelaw12.StateSame': WHATEVER THE INPUT: true; the input reads as it did. -/
def stateSameSpec : ChangeSpec := { name := "stateSame", fn := fun _ => fun
  | [d1, d2, d3] => { results := [.lit (.bool true)], args := [d1, d2, d3] }
  | _ => none }
def stateSameRow : OpenClaim := { program := "ytloemadjiombhaa", sum := "655fa055e1881682c78b8d37312332920328a4f756616c94311510d129565df3", func := "reeve/reevelaw12.StateSame", spec := "stateSame", recurses := true, apart := false }
def StateSameSaid : Prop := stateSameRow.holds Try.pinned (OpenSpec.ofChange stateSameSpec)

/-- ITS FALSE NEIGHBOUR: 'it returns false'. Refute it at one input. -/
def stateSameWrong : ChangeSpec := { name := "stateSame", fn := fun _ => fun
  | [d1, d2, d3] => { results := [.lit (.bool false)], args := [d1, d2, d3] }
  | _ => none }
def StateSameWrongFalsely : Prop := stateSameRow.holds Try.pinned (OpenSpec.ofChange stateSameWrong)

/-- 'reevelaw12.StateNew': WHATEVER THE INPUT: true; the input reads as it did. -/
def stateNewSpec : ChangeSpec := { name := "stateNew", fn := fun _ => fun
  | [d1, d2] => { results := [.lit (.bool true)], args := [d1, d2] }
  | _ => none }
def stateNewRow : OpenClaim := { program := "ytloemadjiombhaa", sum := "655fa055e1881682c78b8d37312332920328a4f756616c94311510d129565df3", func := "reeve/reevelaw12.StateNew", spec := "stateNew", recurses := true, apart := false }
def StateNewSaid : Prop := stateNewRow.holds Try.pinned (OpenSpec.ofChange stateNewSpec)

/-- ITS FALSE NEIGHBOUR: 'it returns false'. Refute it at one input. -/
def stateNewWrong : ChangeSpec := { name := "stateNew", fn := fun _ => fun
  | [d1, d2] => { results := [.lit (.bool false)], args := [d1, d2] }
  | _ => none }
def StateNewWrongFalsely : Prop := stateNewRow.holds Try.pinned (OpenSpec.ofChange stateNewWrong)

/-- 'reevelaw12.StateGaps': WHATEVER THE INPUT: true; the input reads as it did. -/
def stateGapsSpec : ChangeSpec := { name := "stateGaps", fn := fun _ => fun
  | [d1, d2] => { results := [.lit (.bool true)], args := [d1, d2] }
  | _ => none }
def stateGapsRow : OpenClaim := { program := "ytloemadjiombhaa", sum := "655fa055e1881682c78b8d37312332920328a4f756616c94311510d129565df3", func := "reeve/reevelaw12.StateGaps", spec := "stateGaps", recurses := true, apart := false }
def StateGapsSaid : Prop := stateGapsRow.holds Try.pinned (OpenSpec.ofChange stateGapsSpec)

/-- ITS FALSE NEIGHBOUR: 'it returns false'. Refute it at one input. -/
def stateGapsWrong : ChangeSpec := { name := "stateGaps", fn := fun _ => fun
  | [d1, d2] => { results := [.lit (.bool false)], args := [d1, d2] }
  | _ => none }
def StateGapsWrongFalsely : Prop := stateGapsRow.holds Try.pinned (OpenSpec.ofChange stateGapsWrong)

/-- 'reevelaw12.StateHolders': WHATEVER THE INPUT: true; the input reads as it did. -/
def stateHoldersSpec : ChangeSpec := { name := "stateHolders", fn := fun _ => fun
  | [d] => { results := [.lit (.bool true)], args := [d] }
  | _ => none }
def stateHoldersRow : OpenClaim := { program := "ytloemadjiombhaa", sum := "655fa055e1881682c78b8d37312332920328a4f756616c94311510d129565df3", func := "reeve/reevelaw12.StateHolders", spec := "stateHolders", recurses := true, apart := false }
def StateHoldersSaid : Prop := stateHoldersRow.holds Try.pinned (OpenSpec.ofChange stateHoldersSpec)

/-- ITS FALSE NEIGHBOUR: 'it returns false'. Refute it at one input. -/
def stateHoldersWrong : ChangeSpec := { name := "stateHolders", fn := fun _ => fun
  | [d] => { results := [.lit (.bool false)], args := [d] }
  | _ => none }
def StateHoldersWrongFalsely : Prop := stateHoldersRow.holds Try.pinned (OpenSpec.ofChange stateHoldersWrong)

/- THE SECOND FORM. 'bulk': how many values and letters a reading holds, each counted each time it is reached (what is shared counts as often as it is met; a slice's spare places count too). A statement '..UptoSaid' is the law's where the arguments, and the package variables that the reading takes, are together of bulk at most 1048576: NARROWER than '..Said'. Prove '..Said' where nothing that the law and all that it calls make is longer than what came in: it says more and counts as full. Else prove '..UptoSaid'. A law counts once. -/
mutual
def uptoBulk {H : Type} : DataW H → Nat
  | .lit (.string bytes) => bytes.length + 1
  | .lit _ => 1
  | .nil => 1
  | .ptr d => uptoBulk d + 1
  | .slice elems spare => uptoBulkAll elems + uptoBulkAll spare + 1
  | .agg parts => uptoBulkAll parts + 1
  | .iface _ d => uptoBulk d + 1
  | .map entries => uptoBulkEntries entries + 1
  | .held _ => 1
def uptoBulkAll {H : Type} : List (DataW H) → Nat
  | [] => 0
  | d :: r => uptoBulk d + uptoBulkAll r
def uptoBulkEntries {H : Type} : List (Lit × DataW H) → Nat
  | [] => 0
  | x :: r => uptoBulkEntry x + uptoBulkEntries r
def uptoBulkEntry {H : Type} : Lit × DataW H → Nat
  | (.string bytes, d) => bytes.length + uptoBulk d + 1
  | (_, d) => uptoBulk d + 1
 end
def uptoSmall : (H : Type) → List (DataW H) → Bool := fun _ ds => decide (uptoBulkAll ds ≤ 1048576)
def OpenSpec.upto (s : _root_.Go.ChangeSpec) : _root_.Go.OpenSpec := { _root_.Go.OpenSpec.ofChange s with cond := some uptoSmall }

/-- 'reevelaw12.StateKnown', WHERE WHAT IT READS IS OF BULK AT MOST 1048576: true; the input reads as it did. -/
def stateKnownUptoRow : OpenClaim := { program := "ytloemadjiombhaa", sum := "655fa055e1881682c78b8d37312332920328a4f756616c94311510d129565df3", func := "reeve/reevelaw12.StateKnown", spec := "stateKnown", recurses := true, apart := false, narrowed := true }
def StateKnownUptoSaid : Prop := stateKnownUptoRow.holds Try.pinned (OpenSpec.upto stateKnownSpec)

/-- 'reevelaw12.StateSame', WHERE WHAT IT READS IS OF BULK AT MOST 1048576: true; the input reads as it did. -/
def stateSameUptoRow : OpenClaim := { program := "ytloemadjiombhaa", sum := "655fa055e1881682c78b8d37312332920328a4f756616c94311510d129565df3", func := "reeve/reevelaw12.StateSame", spec := "stateSame", recurses := true, apart := false, narrowed := true }
def StateSameUptoSaid : Prop := stateSameUptoRow.holds Try.pinned (OpenSpec.upto stateSameSpec)

/-- 'reevelaw12.StateNew', WHERE WHAT IT READS IS OF BULK AT MOST 1048576: true; the input reads as it did. -/
def stateNewUptoRow : OpenClaim := { program := "ytloemadjiombhaa", sum := "655fa055e1881682c78b8d37312332920328a4f756616c94311510d129565df3", func := "reeve/reevelaw12.StateNew", spec := "stateNew", recurses := true, apart := false, narrowed := true }
def StateNewUptoSaid : Prop := stateNewUptoRow.holds Try.pinned (OpenSpec.upto stateNewSpec)

/-- 'reevelaw12.StateGaps', WHERE WHAT IT READS IS OF BULK AT MOST 1048576: true; the input reads as it did. -/
def stateGapsUptoRow : OpenClaim := { program := "ytloemadjiombhaa", sum := "655fa055e1881682c78b8d37312332920328a4f756616c94311510d129565df3", func := "reeve/reevelaw12.StateGaps", spec := "stateGaps", recurses := true, apart := false, narrowed := true }
def StateGapsUptoSaid : Prop := stateGapsUptoRow.holds Try.pinned (OpenSpec.upto stateGapsSpec)

/-- 'reevelaw12.StateHolders', WHERE WHAT IT READS IS OF BULK AT MOST 1048576: true; the input reads as it did. -/
def stateHoldersUptoRow : OpenClaim := { program := "ytloemadjiombhaa", sum := "655fa055e1881682c78b8d37312332920328a4f756616c94311510d129565df3", func := "reeve/reevelaw12.StateHolders", spec := "stateHolders", recurses := true, apart := false, narrowed := true }
def StateHoldersUptoSaid : Prop := stateHoldersUptoRow.holds Try.pinned (OpenSpec.upto stateHoldersSpec)

end Rows
end Go.Proofs.Ytloemadjiombhaa
