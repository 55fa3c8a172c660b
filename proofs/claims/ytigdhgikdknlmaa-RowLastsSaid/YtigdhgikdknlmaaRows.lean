/-
  No cell of these rows narrows 'for every input' (looked for: loops, veiled, ifaces, maps, wideKeys, modest, calm, conditions, laid).
  DERIVED. THE GIVEN ROWS OF THIS SEAT. 4 by the template 'for every input the law returns true; each argument reads behind the call as it read before'; 0 by the template 'total and deterministic' (their statements: YtigdhgikdknlmaaTotals.lean).
  GIVEN WITH THE SEED: the statements are not yours to turn. If you find one false, say at which input.
  Laid BY PROGRAM, IN A SANDBOX (cutbox-rows.mjs): the forced cells as the released guide's own fill.sh prints them over the translation b151a7e0f3c52684… (all of the seat's roots in one cut). By AI agents, Wed Nov 11 2026. No macro, syntax, notation, axiom, sorry.
-/
import Derived.Test.YtigdhgikdknlmaaChecked
import GoSem.Claim
import GoSem.ClaimJoined
import GoSem.ClaimMapViews
import Derived.JoinedTies
import Derived.KernelRfl
namespace Go.Proofs.Ytigdhgikdknlmaa
/- THE CELL 'sum', in the pinned program and in every row, IS THE sha256 OF THE DUMP (.gsa) THAT YtigdhgikdknlmaaProg.lean LOADS. Nothing in Lean hashes anything: it is a label: what it is worth is what the hold of that sum in a sandbox is worth. -/
noncomputable def Try.pinned : Pinned := { name := "ytigdhgikdknlmaa", sum := "b151a7e0f3c52684f9886a2315a451beb7ae3c619ee0152bfbadc967fea33ac8", checked := Try.checked }
namespace Rows
def none {H : Type} : Left H := { results := [], args := [] }

/-- 'reevelaw2.RowKnown': WHATEVER THE INPUT: true; the input reads as it did. -/
def rowKnownSpec : ChangeSpec := { name := "rowKnown", fn := fun _ => fun
  | [] => { results := [.lit (.bool true)], args := [] }
  | _ => none }
def rowKnownRow : OpenClaim := { program := "ytigdhgikdknlmaa", sum := "b151a7e0f3c52684f9886a2315a451beb7ae3c619ee0152bfbadc967fea33ac8", func := "reeve/reevelaw2.RowKnown", spec := "rowKnown", apart := false }
def RowKnownSaid : Prop := rowKnownRow.holds Try.pinned (OpenSpec.ofChange rowKnownSpec)

/-- ITS FALSE NEIGHBOUR: 'it returns false'. Refute it at one input. -/
def rowKnownWrong : ChangeSpec := { name := "rowKnown", fn := fun _ => fun
  | [] => { results := [.lit (.bool false)], args := [] }
  | _ => none }
def RowKnownWrongFalsely : Prop := rowKnownRow.holds Try.pinned (OpenSpec.ofChange rowKnownWrong)

/-- 'reevelaw2.RowPlays': WHATEVER THE INPUT: true; the input reads as it did. -/
def rowPlaysSpec : ChangeSpec := { name := "rowPlays", fn := fun _ => fun
  | [d1, d2] => { results := [.lit (.bool true)], args := [d1, d2] }
  | _ => none }
def rowPlaysRow : OpenClaim := { program := "ytigdhgikdknlmaa", sum := "b151a7e0f3c52684f9886a2315a451beb7ae3c619ee0152bfbadc967fea33ac8", func := "reeve/reevelaw2.RowPlays", spec := "rowPlays", apart := false }
def RowPlaysSaid : Prop := rowPlaysRow.holds Try.pinned (OpenSpec.ofChange rowPlaysSpec)

/-- ITS FALSE NEIGHBOUR: 'it returns false'. Refute it at one input. -/
def rowPlaysWrong : ChangeSpec := { name := "rowPlays", fn := fun _ => fun
  | [d1, d2] => { results := [.lit (.bool false)], args := [d1, d2] }
  | _ => none }
def RowPlaysWrongFalsely : Prop := rowPlaysRow.holds Try.pinned (OpenSpec.ofChange rowPlaysWrong)

/-- 'reevelaw2.RowLasts': WHATEVER THE INPUT: true; the input reads as it did. -/
def rowLastsSpec : ChangeSpec := { name := "rowLasts", fn := fun _ => fun
  | [d1, d2] => { results := [.lit (.bool true)], args := [d1, d2] }
  | _ => none }
def rowLastsRow : OpenClaim := { program := "ytigdhgikdknlmaa", sum := "b151a7e0f3c52684f9886a2315a451beb7ae3c619ee0152bfbadc967fea33ac8", func := "reeve/reevelaw2.RowLasts", spec := "rowLasts", apart := false }
def RowLastsSaid : Prop := rowLastsRow.holds Try.pinned (OpenSpec.ofChange rowLastsSpec)

/-- ITS FALSE NEIGHBOUR: 'it returns false'. Refute it at one input. -/
def rowLastsWrong : ChangeSpec := { name := "rowLasts", fn := fun _ => fun
  | [d1, d2] => { results := [.lit (.bool false)], args := [d1, d2] }
  | _ => none }
def RowLastsWrongFalsely : Prop := rowLastsRow.holds Try.pinned (OpenSpec.ofChange rowLastsWrong)

/-- 'reevelaw2.RowNew': WHATEVER THE INPUT: true; the input reads as it did. -/
def rowNewSpec : ChangeSpec := { name := "rowNew", fn := fun _ => fun
  | [d] => { results := [.lit (.bool true)], args := [d] }
  | _ => none }
def rowNewRow : OpenClaim := { program := "ytigdhgikdknlmaa", sum := "b151a7e0f3c52684f9886a2315a451beb7ae3c619ee0152bfbadc967fea33ac8", func := "reeve/reevelaw2.RowNew", spec := "rowNew", apart := false }
def RowNewSaid : Prop := rowNewRow.holds Try.pinned (OpenSpec.ofChange rowNewSpec)

/-- ITS FALSE NEIGHBOUR: 'it returns false'. Refute it at one input. -/
def rowNewWrong : ChangeSpec := { name := "rowNew", fn := fun _ => fun
  | [d] => { results := [.lit (.bool false)], args := [d] }
  | _ => none }
def RowNewWrongFalsely : Prop := rowNewRow.holds Try.pinned (OpenSpec.ofChange rowNewWrong)

/- THE SECOND FORM. 'bulk': how many values and letters a reading holds, each counted each time it is reached (what is shared counts as often as it is met; a slice's spare places count too). A statement '..UptoSaid' is the law's where the arguments, and the package variables that the reading takes, are together of bulk at most 1048576: NARROWER than '..Said'. Prove '..Said' where nothing that the law and all that it calls make is longer than what came in: it says more and counts as full. Else prove '..UptoSaid'. A law counts once. -/
mutual
def uptoBulk {H : Type} : DataW H → Nat
  | .lit (.string bytes) => bytes.length + 1
  | .lit _ => 1
  | .nil => 1
  | .ptr d => uptoBulk d + 1
  | .slice elems spare => uptoBulkAll elems + uptoBulkAll spare + 1
  | .agg parts => uptoBulkAll parts + 1
  | .iface _ d => uptoBulk d + 1
  | .map entries => uptoBulkEntries entries + 1
  | .held _ => 1
def uptoBulkAll {H : Type} : List (DataW H) → Nat
  | [] => 0
  | d :: r => uptoBulk d + uptoBulkAll r
def uptoBulkEntries {H : Type} : List (Lit × DataW H) → Nat
  | [] => 0
  | x :: r => uptoBulkEntry x + uptoBulkEntries r
def uptoBulkEntry {H : Type} : Lit × DataW H → Nat
  | (.string bytes, d) => bytes.length + uptoBulk d + 1
  | (_, d) => uptoBulk d + 1
 end
def uptoSmall : (H : Type) → List (DataW H) → Bool := fun _ ds => decide (uptoBulkAll ds ≤ 1048576)
def OpenSpec.upto (s : _root_.Go.ChangeSpec) : _root_.Go.OpenSpec := { _root_.Go.OpenSpec.ofChange s with cond := some uptoSmall }

/-- 'reevelaw2.RowKnown', WHERE WHAT IT READS IS OF BULK AT MOST 1048576: true; the input reads as it did. -/
def rowKnownUptoRow : OpenClaim := { program := "ytigdhgikdknlmaa", sum := "b151a7e0f3c52684f9886a2315a451beb7ae3c619ee0152bfbadc967fea33ac8", func := "reeve/reevelaw2.RowKnown", spec := "rowKnown", apart := false, narrowed := true }
def RowKnownUptoSaid : Prop := rowKnownUptoRow.holds Try.pinned (OpenSpec.upto rowKnownSpec)

/-- 'reevelaw2.RowPlays', WHERE WHAT IT READS IS OF BULK AT MOST 1048576: true; the input reads as it did. -/
def rowPlaysUptoRow : OpenClaim := { program := "ytigdhgikdknlmaa", sum := "b151a7e0f3c52684f9886a2315a451beb7ae3c619ee0152bfbadc967fea33ac8", func := "reeve/reevelaw2.RowPlays", spec := "rowPlays", apart := false, narrowed := true }
def RowPlaysUptoSaid : Prop := rowPlaysUptoRow.holds Try.pinned (OpenSpec.upto rowPlaysSpec)

/-- 'reevelaw2.RowLasts', WHERE WHAT IT READS IS OF BULK AT MOST 1048576: true; the input reads as it did. -/
def rowLastsUptoRow : OpenClaim := { program := "ytigdhgikdknlmaa", sum := "b151a7e0f3c52684f9886a2315a451beb7ae3c619ee0152bfbadc967fea33ac8", func := "reeve/reevelaw2.RowLasts", spec := "rowLasts", apart := false, narrowed := true }
def RowLastsUptoSaid : Prop := rowLastsUptoRow.holds Try.pinned (OpenSpec.upto rowLastsSpec)

/-- 'reevelaw2.RowNew', WHERE WHAT IT READS IS OF BULK AT MOST 1048576: true; the input reads as it did. -/
def rowNewUptoRow : OpenClaim := { program := "ytigdhgikdknlmaa", sum := "b151a7e0f3c52684f9886a2315a451beb7ae3c619ee0152bfbadc967fea33ac8", func := "reeve/reevelaw2.RowNew", spec := "rowNew", apart := false, narrowed := true }
def RowNewUptoSaid : Prop := rowNewUptoRow.holds Try.pinned (OpenSpec.upto rowNewSpec)

end Rows
end Go.Proofs.Ytigdhgikdknlmaa
