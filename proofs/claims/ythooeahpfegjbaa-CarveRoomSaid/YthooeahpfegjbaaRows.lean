/-
  No cell of these rows narrows 'for every input' (looked for: loops, veiled, ifaces, maps, wideKeys, modest, calm, conditions, laid).
  DERIVED. THE GIVEN ROWS OF THIS SEAT. 2 by the template 'for every input the law returns true; each argument reads behind the call as it read before'; 0 by the template 'total and deterministic' (their statements: YthooeahpfegjbaaTotals.lean).
  GIVEN WITH THE SEED: the statements are not yours to turn. If you find one false, say at which input.
  Laid BY PROGRAM, IN A SANDBOX (cutbox-rows.mjs): the forced cells as the released guide's own fill.sh prints them over the translation ad9f39f5f0e073cd… (all of the seat's roots in one cut). By AI agents, Wed Nov 11 2026. No macro, syntax, notation, axiom, sorry.
-/
import Derived.Test.YthooeahpfegjbaaChecked
import GoSem.Claim
import GoSem.ClaimJoined
import GoSem.ClaimMapViews
import Derived.JoinedTies
import Derived.KernelRfl
namespace Go.Proofs.Ythooeahpfegjbaa
/- THE CELL 'sum', in the pinned program and in every row, IS THE sha256 OF THE DUMP (.gsa) THAT YthooeahpfegjbaaProg.lean LOADS. Nothing in Lean hashes anything: it is a label: what it is worth is what the hold of that sum in a sandbox is worth. -/
noncomputable def Try.pinned : Pinned := { name := "ythooeahpfegjbaa", sum := "ad9f39f5f0e073cd3a202fd1e7359c1a7659913402beb47ba3fe889728638074", checked := Try.checked }
namespace Rows
def none {H : Type} : Left H := { results := [], args := [] }

/-- 'reevelaw15.CarveKnown': WHATEVER THE INPUT: true; the input reads as it did. -/
def carveKnownSpec : ChangeSpec := { name := "carveKnown", fn := fun _ => fun
  | [] => { results := [.lit (.bool true)], args := [] }
  | _ => none }
def carveKnownRow : OpenClaim := { program := "ythooeahpfegjbaa", sum := "ad9f39f5f0e073cd3a202fd1e7359c1a7659913402beb47ba3fe889728638074", func := "reeve/reevelaw15.CarveKnown", spec := "carveKnown", recurses := true, apart := false }
def CarveKnownSaid : Prop := carveKnownRow.holds Try.pinned (OpenSpec.ofChange carveKnownSpec)

/-- ITS FALSE NEIGHBOUR: 'it returns false'. Refute it at one input. -/
def carveKnownWrong : ChangeSpec := { name := "carveKnown", fn := fun _ => fun
  | [] => { results := [.lit (.bool false)], args := [] }
  | _ => none }
def CarveKnownWrongFalsely : Prop := carveKnownRow.holds Try.pinned (OpenSpec.ofChange carveKnownWrong)

/-- 'reevelaw15.CarveRoom': WHATEVER THE INPUT: true; the input reads as it did. -/
def carveRoomSpec : ChangeSpec := { name := "carveRoom", fn := fun _ => fun
  | [d1, d2, d3] => { results := [.lit (.bool true)], args := [d1, d2, d3] }
  | _ => none }
def carveRoomRow : OpenClaim := { program := "ythooeahpfegjbaa", sum := "ad9f39f5f0e073cd3a202fd1e7359c1a7659913402beb47ba3fe889728638074", func := "reeve/reevelaw15.CarveRoom", spec := "carveRoom", recurses := true, apart := false }
def CarveRoomSaid : Prop := carveRoomRow.holds Try.pinned (OpenSpec.ofChange carveRoomSpec)

/-- ITS FALSE NEIGHBOUR: 'it returns false'. Refute it at one input. -/
def carveRoomWrong : ChangeSpec := { name := "carveRoom", fn := fun _ => fun
  | [d1, d2, d3] => { results := [.lit (.bool false)], args := [d1, d2, d3] }
  | _ => none }
def CarveRoomWrongFalsely : Prop := carveRoomRow.holds Try.pinned (OpenSpec.ofChange carveRoomWrong)

/- THE SECOND FORM. 'bulk': how many values and letters a reading holds, each counted each time it is reached (what is shared counts as often as it is met; a slice's spare places count too). A statement '..UptoSaid' is the law's where the arguments, and the package variables that the reading takes, are together of bulk at most 1048576: NARROWER than '..Said'. Prove '..Said' where nothing that the law and all that it calls make is longer than what came in: it says more and counts as full. Else prove '..UptoSaid'. A law counts once. -/
mutual
def uptoBulk {H : Type} : DataW H → Nat
  | .lit (.string bytes) => bytes.length + 1
  | .lit _ => 1
  | .nil => 1
  | .ptr d => uptoBulk d + 1
  | .slice elems spare => uptoBulkAll elems + uptoBulkAll spare + 1
  | .agg parts => uptoBulkAll parts + 1
  | .iface _ d => uptoBulk d + 1
  | .map entries => uptoBulkEntries entries + 1
  | .held _ => 1
def uptoBulkAll {H : Type} : List (DataW H) → Nat
  | [] => 0
  | d :: r => uptoBulk d + uptoBulkAll r
def uptoBulkEntries {H : Type} : List (Lit × DataW H) → Nat
  | [] => 0
  | x :: r => uptoBulkEntry x + uptoBulkEntries r
def uptoBulkEntry {H : Type} : Lit × DataW H → Nat
  | (.string bytes, d) => bytes.length + uptoBulk d + 1
  | (_, d) => uptoBulk d + 1
 end
def uptoSmall : (H : Type) → List (DataW H) → Bool := fun _ ds => decide (uptoBulkAll ds ≤ 1048576)
def OpenSpec.upto (s : _root_.Go.ChangeSpec) : _root_.Go.OpenSpec := { _root_.Go.OpenSpec.ofChange s with cond := some uptoSmall }

/-- 'reevelaw15.CarveKnown', WHERE WHAT IT READS IS OF BULK AT MOST 1048576: true; the input reads as it did. -/
def carveKnownUptoRow : OpenClaim := { program := "ythooeahpfegjbaa", sum := "ad9f39f5f0e073cd3a202fd1e7359c1a7659913402beb47ba3fe889728638074", func := "reeve/reevelaw15.CarveKnown", spec := "carveKnown", recurses := true, apart := false, narrowed := true }
def CarveKnownUptoSaid : Prop := carveKnownUptoRow.holds Try.pinned (OpenSpec.upto carveKnownSpec)

/-- 'reevelaw15.CarveRoom', WHERE WHAT IT READS IS OF BULK AT MOST 1048576: true; the input reads as it did. -/
def carveRoomUptoRow : OpenClaim := { program := "ythooeahpfegjbaa", sum := "ad9f39f5f0e073cd3a202fd1e7359c1a7659913402beb47ba3fe889728638074", func := "reeve/reevelaw15.CarveRoom", spec := "carveRoom", recurses := true, apart := false, narrowed := true }
def CarveRoomUptoSaid : Prop := carveRoomUptoRow.holds Try.pinned (OpenSpec.upto carveRoomSpec)

end Rows
end Go.Proofs.Ythooeahpfegjbaa
