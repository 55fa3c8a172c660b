/-
  No cell of these rows narrows 'for every input' (looked for: loops, veiled, ifaces, maps, wideKeys, modest, calm, conditions, laid).
  DERIVED. THE GIVEN ROWS OF THIS SEAT. 5 by the template 'for every input the law returns true; each argument reads behind the call as it read before'; 0 by the template 'total and deterministic' (their statements: YtkpbfbmkolgmgaaGreatTotals.lean).
  GIVEN WITH THE SEED: the statements are not yours to turn. If you find one false, say at which input.
  Laid BY PROGRAM, IN A SANDBOX (cutbox-rows.mjs): the forced cells as the released guide's own fill.sh prints them over the translation 7510867274407201… (all of the seat's roots in one cut). By AI agents, Wed Nov 11 2026. No macro, syntax, notation, axiom, sorry.
-/
import Derived.Test.YtkpbfbmkolgmgaaGreatChecked
import GoSem.Claim
import GoSem.ClaimJoined
import GoSem.ClaimMapViews
import Derived.JoinedTies
import Derived.KernelRfl
namespace Go.Proofs.YtkpbfbmkolgmgaaGreat
/- THE CELL 'sum', in the pinned program and in every row, IS THE sha256 OF THE DUMP (.gsa) THAT YtkpbfbmkolgmgaaGreatProg.lean LOADS. Nothing in Lean hashes anything: it is a label: what it is worth is what the hold of that sum in a sandbox is worth. -/
noncomputable def Tryz.pinned : Pinned := { name := "ytkpbfbmkolgmgaagreat", sum := "75108672744072017db45dcdfa4c74cfe57e0f1fdffcc002eca4807523333d5b", checked := Tryz.checked }
namespace Rows
def none {H : Type} : Left H := { results := [], args := [] }

/-- 'reevelaw15.CarveSays': WHATEVER THE INPUT: true; the input reads as it did. -/
def carveSaysSpec : ChangeSpec := { name := "carveSays", fn := fun _ => fun
  | [d1, d2, d3] => { results := [.lit (.bool true)], args := [d1, d2, d3] }
  | _ => none }
def carveSaysRow : OpenClaim := { program := "ytkpbfbmkolgmgaagreat", sum := "75108672744072017db45dcdfa4c74cfe57e0f1fdffcc002eca4807523333d5b", func := "reeve/reevelaw15.CarveSays", spec := "carveSays", recurses := true, apart := false }
def CarveSaysSaid : Prop := carveSaysRow.holds Tryz.pinned (OpenSpec.ofChange carveSaysSpec)

/-- ITS FALSE NEIGHBOUR: 'it returns false'. Refute it at one input. -/
def carveSaysWrong : ChangeSpec := { name := "carveSays", fn := fun _ => fun
  | [d1, d2, d3] => { results := [.lit (.bool false)], args := [d1, d2, d3] }
  | _ => none }
def CarveSaysWrongFalsely : Prop := carveSaysRow.holds Tryz.pinned (OpenSpec.ofChange carveSaysWrong)

/-- 'reevelaw16.GiveSays': WHATEVER THE INPUT: true; the input reads as it did. -/
def giveSaysSpec : ChangeSpec := { name := "giveSays", fn := fun _ => fun
  | [d1, d2, d3] => { results := [.lit (.bool true)], args := [d1, d2, d3] }
  | _ => none }
def giveSaysRow : OpenClaim := { program := "ytkpbfbmkolgmgaagreat", sum := "75108672744072017db45dcdfa4c74cfe57e0f1fdffcc002eca4807523333d5b", func := "reeve/reevelaw16.GiveSays", spec := "giveSays", recurses := true, apart := false }
def GiveSaysSaid : Prop := giveSaysRow.holds Tryz.pinned (OpenSpec.ofChange giveSaysSpec)

/-- ITS FALSE NEIGHBOUR: 'it returns false'. Refute it at one input. -/
def giveSaysWrong : ChangeSpec := { name := "giveSays", fn := fun _ => fun
  | [d1, d2, d3] => { results := [.lit (.bool false)], args := [d1, d2, d3] }
  | _ => none }
def GiveSaysWrongFalsely : Prop := giveSaysRow.holds Tryz.pinned (OpenSpec.ofChange giveSaysWrong)

/-- 'reevelaw18.MailKnown': WHATEVER THE INPUT: true; the input reads as it did. -/
def mailKnownSpec : ChangeSpec := { name := "mailKnown", fn := fun _ => fun
  | [] => { results := [.lit (.bool true)], args := [] }
  | _ => none }
def mailKnownRow : OpenClaim := { program := "ytkpbfbmkolgmgaagreat", sum := "75108672744072017db45dcdfa4c74cfe57e0f1fdffcc002eca4807523333d5b", func := "reeve/reevelaw18.MailKnown", spec := "mailKnown", recurses := true, apart := false }
def MailKnownSaid : Prop := mailKnownRow.holds Tryz.pinned (OpenSpec.ofChange mailKnownSpec)

/-- ITS FALSE NEIGHBOUR: 'it returns false'. Refute it at one input. -/
def mailKnownWrong : ChangeSpec := { name := "mailKnown", fn := fun _ => fun
  | [] => { results := [.lit (.bool false)], args := [] }
  | _ => none }
def MailKnownWrongFalsely : Prop := mailKnownRow.holds Tryz.pinned (OpenSpec.ofChange mailKnownWrong)

/-- 'reevelaw18.MailSays': WHATEVER THE INPUT: true; the input reads as it did. -/
def mailSaysSpec : ChangeSpec := { name := "mailSays", fn := fun _ => fun
  | [d1, d2, d3] => { results := [.lit (.bool true)], args := [d1, d2, d3] }
  | _ => none }
def mailSaysRow : OpenClaim := { program := "ytkpbfbmkolgmgaagreat", sum := "75108672744072017db45dcdfa4c74cfe57e0f1fdffcc002eca4807523333d5b", func := "reeve/reevelaw18.MailSays", spec := "mailSays", recurses := true, apart := false }
def MailSaysSaid : Prop := mailSaysRow.holds Tryz.pinned (OpenSpec.ofChange mailSaysSpec)

/-- ITS FALSE NEIGHBOUR: 'it returns false'. Refute it at one input. -/
def mailSaysWrong : ChangeSpec := { name := "mailSays", fn := fun _ => fun
  | [d1, d2, d3] => { results := [.lit (.bool false)], args := [d1, d2, d3] }
  | _ => none }
def MailSaysWrongFalsely : Prop := mailSaysRow.holds Tryz.pinned (OpenSpec.ofChange mailSaysWrong)

/-- 'reevelaw18.MailLost': WHATEVER THE INPUT: true; the input reads as it did. -/
def mailLostSpec : ChangeSpec := { name := "mailLost", fn := fun _ => fun
  | [d1, d2] => { results := [.lit (.bool true)], args := [d1, d2] }
  | _ => none }
def mailLostRow : OpenClaim := { program := "ytkpbfbmkolgmgaagreat", sum := "75108672744072017db45dcdfa4c74cfe57e0f1fdffcc002eca4807523333d5b", func := "reeve/reevelaw18.MailLost", spec := "mailLost", recurses := true, apart := false }
def MailLostSaid : Prop := mailLostRow.holds Tryz.pinned (OpenSpec.ofChange mailLostSpec)

/-- ITS FALSE NEIGHBOUR: 'it returns false'. Refute it at one input. -/
def mailLostWrong : ChangeSpec := { name := "mailLost", fn := fun _ => fun
  | [d1, d2] => { results := [.lit (.bool false)], args := [d1, d2] }
  | _ => none }
def MailLostWrongFalsely : Prop := mailLostRow.holds Tryz.pinned (OpenSpec.ofChange mailLostWrong)

/- THE SECOND FORM. 'bulk': how many values and letters a reading holds, each counted each time it is reached (what is shared counts as often as it is met; a slice's spare places count too). A statement '..UptoSaid' is the law's where the arguments, and the package variables that the reading takes, are together of bulk at most 1048576: NARROWER than '..Said'. Prove '..Said' where nothing that the law and all that it calls make is longer than what came in: it says more and counts as full. Else prove '..UptoSaid'. A law counts once. -/
mutual
def uptoBulk {H : Type} : DataW H → Nat
  | .lit (.string bytes) => bytes.length + 1
  | .lit _ => 1
  | .nil => 1
  | .ptr d => uptoBulk d + 1
  | .slice elems spare => uptoBulkAll elems + uptoBulkAll spare + 1
  | .agg parts => uptoBulkAll parts + 1
  | .iface _ d => uptoBulk d + 1
  | .map entries => uptoBulkEntries entries + 1
  | .held _ => 1
def uptoBulkAll {H : Type} : List (DataW H) → Nat
  | [] => 0
  | d :: r => uptoBulk d + uptoBulkAll r
def uptoBulkEntries {H : Type} : List (Lit × DataW H) → Nat
  | [] => 0
  | x :: r => uptoBulkEntry x + uptoBulkEntries r
def uptoBulkEntry {H : Type} : Lit × DataW H → Nat
  | (.string bytes, d) => bytes.length + uptoBulk d + 1
  | (_, d) => uptoBulk d + 1
 end
def uptoSmall : (H : Type) → List (DataW H) → Bool := fun _ ds => decide (uptoBulkAll ds ≤ 1048576)
def OpenSpec.upto (s : _root_.Go.ChangeSpec) : _root_.Go.OpenSpec := { _root_.Go.OpenSpec.ofChange s with cond := some uptoSmall }

/-- 'reevelaw15.CarveSays', WHERE WHAT IT READS IS OF BULK AT MOST 1048576: true; the input reads as it did. -/
def carveSaysUptoRow : OpenClaim := { program := "ytkpbfbmkolgmgaagreat", sum := "75108672744072017db45dcdfa4c74cfe57e0f1fdffcc002eca4807523333d5b", func := "reeve/reevelaw15.CarveSays", spec := "carveSays", recurses := true, apart := false, narrowed := true }
def CarveSaysUptoSaid : Prop := carveSaysUptoRow.holds Tryz.pinned (OpenSpec.upto carveSaysSpec)

/-- 'reevelaw16.GiveSays', WHERE WHAT IT READS IS OF BULK AT MOST 1048576: true; the input reads as it did. -/
def giveSaysUptoRow : OpenClaim := { program := "ytkpbfbmkolgmgaagreat", sum := "75108672744072017db45dcdfa4c74cfe57e0f1fdffcc002eca4807523333d5b", func := "reeve/reevelaw16.GiveSays", spec := "giveSays", recurses := true, apart := false, narrowed := true }
def GiveSaysUptoSaid : Prop := giveSaysUptoRow.holds Tryz.pinned (OpenSpec.upto giveSaysSpec)

/-- 'reevelaw18.MailKnown', WHERE WHAT IT READS IS OF BULK AT MOST 1048576: true; the input reads as it did. -/
def mailKnownUptoRow : OpenClaim := { program := "ytkpbfbmkolgmgaagreat", sum := "75108672744072017db45dcdfa4c74cfe57e0f1fdffcc002eca4807523333d5b", func := "reeve/reevelaw18.MailKnown", spec := "mailKnown", recurses := true, apart := false, narrowed := true }
def MailKnownUptoSaid : Prop := mailKnownUptoRow.holds Tryz.pinned (OpenSpec.upto mailKnownSpec)

/-- 'reevelaw18.MailSays', WHERE WHAT IT READS IS OF BULK AT MOST 1048576: true; the input reads as it did. -/
def mailSaysUptoRow : OpenClaim := { program := "ytkpbfbmkolgmgaagreat", sum := "75108672744072017db45dcdfa4c74cfe57e0f1fdffcc002eca4807523333d5b", func := "reeve/reevelaw18.MailSays", spec := "mailSays", recurses := true, apart := false, narrowed := true }
def MailSaysUptoSaid : Prop := mailSaysUptoRow.holds Tryz.pinned (OpenSpec.upto mailSaysSpec)

/-- 'reevelaw18.MailLost', WHERE WHAT IT READS IS OF BULK AT MOST 1048576: true; the input reads as it did. -/
def mailLostUptoRow : OpenClaim := { program := "ytkpbfbmkolgmgaagreat", sum := "75108672744072017db45dcdfa4c74cfe57e0f1fdffcc002eca4807523333d5b", func := "reeve/reevelaw18.MailLost", spec := "mailLost", recurses := true, apart := false, narrowed := true }
def MailLostUptoSaid : Prop := mailLostUptoRow.holds Tryz.pinned (OpenSpec.upto mailLostSpec)

end Rows
end Go.Proofs.YtkpbfbmkolgmgaaGreat
