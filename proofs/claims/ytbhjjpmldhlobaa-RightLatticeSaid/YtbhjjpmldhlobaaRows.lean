/-
  No cell of these rows narrows 'for every input' (looked for: loops, veiled, ifaces, maps, wideKeys, modest, calm, conditions, laid).
  DERIVED. THE GIVEN ROWS OF THIS SEAT. 4 by the template 'for every input the law returns true; each argument reads behind the call as it read before'; 0 by the template 'total and deterministic' (their statements: YtbhjjpmldhlobaaTotals.lean).
  GIVEN WITH THE SEED: the statements are not yours to turn. If you find one false, say at which input.
  Laid BY PROGRAM, IN A SANDBOX (cutbox-rows.mjs): the forced cells as the released guide's own fill.sh prints them over the translation 6e31c67b1d7c6f6d… (all of the seat's roots in one cut). By AI agents, Wed Nov 11 2026. No macro, syntax, notation, axiom, sorry.
-/
import Derived.Test.YtbhjjpmldhlobaaChecked
import GoSem.Claim
import GoSem.ClaimJoined
import GoSem.ClaimMapViews
import Derived.JoinedTies
import Derived.KernelRfl
namespace Go.Proofs.Ytbhjjpmldhlobaa
/- THE CELL 'sum', in the pinned program and in every row, IS THE sha256 OF THE DUMP (.gsa) THAT YtbhjjpmldhlobaaProg.lean LOADS. Nothing in Lean hashes anything: it is a label: what it is worth is what the hold of that sum in a sandbox is worth. -/
noncomputable def Try.pinned : Pinned := { name := "ytbhjjpmldhlobaa", sum := "6e31c67b1d7c6f6d240de146b1f511b806e1494fe3624cb173768dd840a15602", checked := Try.checked }
namespace Rows
def none {H : Type} : Left H := { results := [], args := [] }

/-- 'reevelaw7.RightKnown': WHATEVER THE INPUT: true; the input reads as it did. -/
def rightKnownSpec : ChangeSpec := { name := "rightKnown", fn := fun _ => fun
  | [] => { results := [.lit (.bool true)], args := [] }
  | _ => none }
def rightKnownRow : OpenClaim := { program := "ytbhjjpmldhlobaa", sum := "6e31c67b1d7c6f6d240de146b1f511b806e1494fe3624cb173768dd840a15602", func := "reeve/reevelaw7.RightKnown", spec := "rightKnown", apart := false }
def RightKnownSaid : Prop := rightKnownRow.holds Try.pinned (OpenSpec.ofChange rightKnownSpec)

/-- ITS FALSE NEIGHBOUR: 'it returns false'. Refute it at one input. -/
def rightKnownWrong : ChangeSpec := { name := "rightKnown", fn := fun _ => fun
  | [] => { results := [.lit (.bool false)], args := [] }
  | _ => none }
def RightKnownWrongFalsely : Prop := rightKnownRow.holds Try.pinned (OpenSpec.ofChange rightKnownWrong)

/-- 'reevelaw7.RightSays': WHATEVER THE INPUT: true; the input reads as it did. -/
def rightSaysSpec : ChangeSpec := { name := "rightSays", fn := fun _ => fun
  | [d1, d2, d3] => { results := [.lit (.bool true)], args := [d1, d2, d3] }
  | _ => none }
def rightSaysRow : OpenClaim := { program := "ytbhjjpmldhlobaa", sum := "6e31c67b1d7c6f6d240de146b1f511b806e1494fe3624cb173768dd840a15602", func := "reeve/reevelaw7.RightSays", spec := "rightSays", apart := false }
def RightSaysSaid : Prop := rightSaysRow.holds Try.pinned (OpenSpec.ofChange rightSaysSpec)

/-- ITS FALSE NEIGHBOUR: 'it returns false'. Refute it at one input. -/
def rightSaysWrong : ChangeSpec := { name := "rightSays", fn := fun _ => fun
  | [d1, d2, d3] => { results := [.lit (.bool false)], args := [d1, d2, d3] }
  | _ => none }
def RightSaysWrongFalsely : Prop := rightSaysRow.holds Try.pinned (OpenSpec.ofChange rightSaysWrong)

/-- 'reevelaw7.RightLattice': WHATEVER THE INPUT: true; the input reads as it did. -/
def rightLatticeSpec : ChangeSpec := { name := "rightLattice", fn := fun _ => fun
  | [d1, d2, d3] => { results := [.lit (.bool true)], args := [d1, d2, d3] }
  | _ => none }
def rightLatticeRow : OpenClaim := { program := "ytbhjjpmldhlobaa", sum := "6e31c67b1d7c6f6d240de146b1f511b806e1494fe3624cb173768dd840a15602", func := "reeve/reevelaw7.RightLattice", spec := "rightLattice", apart := false }
def RightLatticeSaid : Prop := rightLatticeRow.holds Try.pinned (OpenSpec.ofChange rightLatticeSpec)

/-- ITS FALSE NEIGHBOUR: 'it returns false'. Refute it at one input. -/
def rightLatticeWrong : ChangeSpec := { name := "rightLattice", fn := fun _ => fun
  | [d1, d2, d3] => { results := [.lit (.bool false)], args := [d1, d2, d3] }
  | _ => none }
def RightLatticeWrongFalsely : Prop := rightLatticeRow.holds Try.pinned (OpenSpec.ofChange rightLatticeWrong)

/-- 'reevelaw7.RightTexts': WHATEVER THE INPUT: true; the input reads as it did. -/
def rightTextsSpec : ChangeSpec := { name := "rightTexts", fn := fun _ => fun
  | [d1, d2] => { results := [.lit (.bool true)], args := [d1, d2] }
  | _ => none }
def rightTextsRow : OpenClaim := { program := "ytbhjjpmldhlobaa", sum := "6e31c67b1d7c6f6d240de146b1f511b806e1494fe3624cb173768dd840a15602", func := "reeve/reevelaw7.RightTexts", spec := "rightTexts", apart := false }
def RightTextsSaid : Prop := rightTextsRow.holds Try.pinned (OpenSpec.ofChange rightTextsSpec)

/-- ITS FALSE NEIGHBOUR: 'it returns false'. Refute it at one input. -/
def rightTextsWrong : ChangeSpec := { name := "rightTexts", fn := fun _ => fun
  | [d1, d2] => { results := [.lit (.bool false)], args := [d1, d2] }
  | _ => none }
def RightTextsWrongFalsely : Prop := rightTextsRow.holds Try.pinned (OpenSpec.ofChange rightTextsWrong)

/- THE SECOND FORM. 'bulk': how many values and letters a reading holds, each counted each time it is reached (what is shared counts as often as it is met; a slice's spare places count too). A statement '..UptoSaid' is the law's where the arguments, and the package variables that the reading takes, are together of bulk at most 1048576: NARROWER than '..Said'. Prove '..Said' where nothing that the law and all that it calls make is longer than what came in: it says more and counts as full. Else prove '..UptoSaid'. A law counts once. -/
mutual
def uptoBulk {H : Type} : DataW H → Nat
  | .lit (.string bytes) => bytes.length + 1
  | .lit _ => 1
  | .nil => 1
  | .ptr d => uptoBulk d + 1
  | .slice elems spare => uptoBulkAll elems + uptoBulkAll spare + 1
  | .agg parts => uptoBulkAll parts + 1
  | .iface _ d => uptoBulk d + 1
  | .map entries => uptoBulkEntries entries + 1
  | .held _ => 1
def uptoBulkAll {H : Type} : List (DataW H) → Nat
  | [] => 0
  | d :: r => uptoBulk d + uptoBulkAll r
def uptoBulkEntries {H : Type} : List (Lit × DataW H) → Nat
  | [] => 0
  | x :: r => uptoBulkEntry x + uptoBulkEntries r
def uptoBulkEntry {H : Type} : Lit × DataW H → Nat
  | (.string bytes, d) => bytes.length + uptoBulk d + 1
  | (_, d) => uptoBulk d + 1
 end
def uptoSmall : (H : Type) → List (DataW H) → Bool := fun _ ds => decide (uptoBulkAll ds ≤ 1048576)
def OpenSpec.upto (s : _root_.Go.ChangeSpec) : _root_.Go.OpenSpec := { _root_.Go.OpenSpec.ofChange s with cond := some uptoSmall }

/-- 'reevelaw7.RightKnown', WHERE WHAT IT READS IS OF BULK AT MOST 1048576: true; the input reads as it did. -/
def rightKnownUptoRow : OpenClaim := { program := "ytbhjjpmldhlobaa", sum := "6e31c67b1d7c6f6d240de146b1f511b806e1494fe3624cb173768dd840a15602", func := "reeve/reevelaw7.RightKnown", spec := "rightKnown", apart := false, narrowed := true }
def RightKnownUptoSaid : Prop := rightKnownUptoRow.holds Try.pinned (OpenSpec.upto rightKnownSpec)

/-- 'reevelaw7.RightSays', WHERE WHAT IT READS IS OF BULK AT MOST 1048576: true; the input reads as it did. -/
def rightSaysUptoRow : OpenClaim := { program := "ytbhjjpmldhlobaa", sum := "6e31c67b1d7c6f6d240de146b1f511b806e1494fe3624cb173768dd840a15602", func := "reeve/reevelaw7.RightSays", spec := "rightSays", apart := false, narrowed := true }
def RightSaysUptoSaid : Prop := rightSaysUptoRow.holds Try.pinned (OpenSpec.upto rightSaysSpec)

/-- 'reevelaw7.RightLattice', WHERE WHAT IT READS IS OF BULK AT MOST 1048576: true; the input reads as it did. -/
def rightLatticeUptoRow : OpenClaim := { program := "ytbhjjpmldhlobaa", sum := "6e31c67b1d7c6f6d240de146b1f511b806e1494fe3624cb173768dd840a15602", func := "reeve/reevelaw7.RightLattice", spec := "rightLattice", apart := false, narrowed := true }
def RightLatticeUptoSaid : Prop := rightLatticeUptoRow.holds Try.pinned (OpenSpec.upto rightLatticeSpec)

/-- 'reevelaw7.RightTexts', WHERE WHAT IT READS IS OF BULK AT MOST 1048576: true; the input reads as it did. -/
def rightTextsUptoRow : OpenClaim := { program := "ytbhjjpmldhlobaa", sum := "6e31c67b1d7c6f6d240de146b1f511b806e1494fe3624cb173768dd840a15602", func := "reeve/reevelaw7.RightTexts", spec := "rightTexts", apart := false, narrowed := true }
def RightTextsUptoSaid : Prop := rightTextsUptoRow.holds Try.pinned (OpenSpec.upto rightTextsSpec)

end Rows
end Go.Proofs.Ytbhjjpmldhlobaa
