/-
  No cell of these rows narrows 'for every input' (looked for: loops, veiled, ifaces, maps, wideKeys, modest, calm, conditions, laid).
  DERIVED. THE GIVEN ROWS OF THIS SEAT. 5 by the template 'for every input the law returns true; each argument reads behind the call as it read before'; 0 by the template 'total and deterministic' (their statements: YtjnohbahjlidoaaGreatTotals.lean).
  GIVEN WITH THE SEED: the statements are not yours to turn. If you find one false, say at which input.
  Laid BY PROGRAM, IN A SANDBOX (cutbox-rows.mjs): the forced cells as the released guide's own fill.sh prints them over the translation 253b3d2f7994d558… (all of the seat's roots in one cut). By AI agents, Wed Nov 11 2026. No macro, syntax, notation, axiom, sorry.
-/
import Derived.Test.YtjnohbahjlidoaaGreatChecked
import GoSem.Claim
import GoSem.ClaimJoined
import GoSem.ClaimMapViews
import Derived.JoinedTies
import Derived.KernelRfl
namespace Go.Proofs.YtjnohbahjlidoaaGreat
/- THE CELL 'sum', in the pinned program and in every row, IS THE sha256 OF THE DUMP (.gsa) THAT YtjnohbahjlidoaaGreatProg.lean LOADS. Nothing in Lean hashes anything: it is a label: what it is worth is what the hold of that sum in a sandbox is worth. -/
noncomputable def Tryz.pinned : Pinned := { name := "ytjnohbahjlidoaagreat", sum := "253b3d2f7994d558ba105d14b9731312c263a27c843b1eed62229bf8d734c390", checked := Tryz.checked }
namespace Rows
def none {H : Type} : Left H := { results := [], args := [] }

/-- 'reevelaw17.TakeKnown': WHATEVER THE INPUT: true; the input reads as it did. -/
def takeKnownSpec : ChangeSpec := { name := "takeKnown", fn := fun _ => fun
  | [] => { results := [.lit (.bool true)], args := [] }
  | _ => none }
def takeKnownRow : OpenClaim := { program := "ytjnohbahjlidoaagreat", sum := "253b3d2f7994d558ba105d14b9731312c263a27c843b1eed62229bf8d734c390", func := "reeve/reevelaw17.TakeKnown", spec := "takeKnown", recurses := true, apart := false }
def TakeKnownSaid : Prop := takeKnownRow.holds Tryz.pinned (OpenSpec.ofChange takeKnownSpec)

/-- ITS FALSE NEIGHBOUR: 'it returns false'. Refute it at one input. -/
def takeKnownWrong : ChangeSpec := { name := "takeKnown", fn := fun _ => fun
  | [] => { results := [.lit (.bool false)], args := [] }
  | _ => none }
def TakeKnownWrongFalsely : Prop := takeKnownRow.holds Tryz.pinned (OpenSpec.ofChange takeKnownWrong)

/-- 'reevelaw17.TakeCopies': WHATEVER THE INPUT: true; the input reads as it did. -/
def takeCopiesSpec : ChangeSpec := { name := "takeCopies", fn := fun _ => fun
  | [d1, d2, d3, d4, d5] => { results := [.lit (.bool true)], args := [d1, d2, d3, d4, d5] }
  | _ => none }
def takeCopiesRow : OpenClaim := { program := "ytjnohbahjlidoaagreat", sum := "253b3d2f7994d558ba105d14b9731312c263a27c843b1eed62229bf8d734c390", func := "reeve/reevelaw17.TakeCopies", spec := "takeCopies", recurses := true, apart := false }
def TakeCopiesSaid : Prop := takeCopiesRow.holds Tryz.pinned (OpenSpec.ofChange takeCopiesSpec)

/-- ITS FALSE NEIGHBOUR: 'it returns false'. Refute it at one input. -/
def takeCopiesWrong : ChangeSpec := { name := "takeCopies", fn := fun _ => fun
  | [d1, d2, d3, d4, d5] => { results := [.lit (.bool false)], args := [d1, d2, d3, d4, d5] }
  | _ => none }
def TakeCopiesWrongFalsely : Prop := takeCopiesRow.holds Tryz.pinned (OpenSpec.ofChange takeCopiesWrong)

/-- 'reevelaw17.TakeAll': WHATEVER THE INPUT: true; the input reads as it did. -/
def takeAllSpec : ChangeSpec := { name := "takeAll", fn := fun _ => fun
  | [d] => { results := [.lit (.bool true)], args := [d] }
  | _ => none }
def takeAllRow : OpenClaim := { program := "ytjnohbahjlidoaagreat", sum := "253b3d2f7994d558ba105d14b9731312c263a27c843b1eed62229bf8d734c390", func := "reeve/reevelaw17.TakeAll", spec := "takeAll", recurses := true, apart := false }
def TakeAllSaid : Prop := takeAllRow.holds Tryz.pinned (OpenSpec.ofChange takeAllSpec)

/-- ITS FALSE NEIGHBOUR: 'it returns false'. Refute it at one input. -/
def takeAllWrong : ChangeSpec := { name := "takeAll", fn := fun _ => fun
  | [d] => { results := [.lit (.bool false)], args := [d] }
  | _ => none }
def TakeAllWrongFalsely : Prop := takeAllRow.holds Tryz.pinned (OpenSpec.ofChange takeAllWrong)

/-- 'reevelaw15.CarveSays': WHATEVER THE INPUT: true; the input reads as it did. -/
def carveSaysSpec : ChangeSpec := { name := "carveSays", fn := fun _ => fun
  | [d1, d2, d3] => { results := [.lit (.bool true)], args := [d1, d2, d3] }
  | _ => none }
def carveSaysRow : OpenClaim := { program := "ytjnohbahjlidoaagreat", sum := "253b3d2f7994d558ba105d14b9731312c263a27c843b1eed62229bf8d734c390", func := "reeve/reevelaw15.CarveSays", spec := "carveSays", recurses := true, apart := false }
def CarveSaysSaid : Prop := carveSaysRow.holds Tryz.pinned (OpenSpec.ofChange carveSaysSpec)

/-- ITS FALSE NEIGHBOUR: 'it returns false'. Refute it at one input. -/
def carveSaysWrong : ChangeSpec := { name := "carveSays", fn := fun _ => fun
  | [d1, d2, d3] => { results := [.lit (.bool false)], args := [d1, d2, d3] }
  | _ => none }
def CarveSaysWrongFalsely : Prop := carveSaysRow.holds Tryz.pinned (OpenSpec.ofChange carveSaysWrong)

/-- 'reevelaw16.GiveSays': WHATEVER THE INPUT: true; the input reads as it did. -/
def giveSaysSpec : ChangeSpec := { name := "giveSays", fn := fun _ => fun
  | [d1, d2, d3] => { results := [.lit (.bool true)], args := [d1, d2, d3] }
  | _ => none }
def giveSaysRow : OpenClaim := { program := "ytjnohbahjlidoaagreat", sum := "253b3d2f7994d558ba105d14b9731312c263a27c843b1eed62229bf8d734c390", func := "reeve/reevelaw16.GiveSays", spec := "giveSays", recurses := true, apart := false }
def GiveSaysSaid : Prop := giveSaysRow.holds Tryz.pinned (OpenSpec.ofChange giveSaysSpec)

/-- ITS FALSE NEIGHBOUR: 'it returns false'. Refute it at one input. -/
def giveSaysWrong : ChangeSpec := { name := "giveSays", fn := fun _ => fun
  | [d1, d2, d3] => { results := [.lit (.bool false)], args := [d1, d2, d3] }
  | _ => none }
def GiveSaysWrongFalsely : Prop := giveSaysRow.holds Tryz.pinned (OpenSpec.ofChange giveSaysWrong)

/- THE SECOND FORM. 'bulk': how many values and letters a reading holds, each counted each time it is reached (what is shared counts as often as it is met; a slice's spare places count too). A statement '..UptoSaid' is the law's where the arguments, and the package variables that the reading takes, are together of bulk at most 1048576: NARROWER than '..Said'. Prove '..Said' where nothing that the law and all that it calls make is longer than what came in: it says more and counts as full. Else prove '..UptoSaid'. A law counts once. -/
mutual
def uptoBulk {H : Type} : DataW H → Nat
  | .lit (.string bytes) => bytes.length + 1
  | .lit _ => 1
  | .nil => 1
  | .ptr d => uptoBulk d + 1
  | .slice elems spare => uptoBulkAll elems + uptoBulkAll spare + 1
  | .agg parts => uptoBulkAll parts + 1
  | .iface _ d => uptoBulk d + 1
  | .map entries => uptoBulkEntries entries + 1
  | .held _ => 1
def uptoBulkAll {H : Type} : List (DataW H) → Nat
  | [] => 0
  | d :: r => uptoBulk d + uptoBulkAll r
def uptoBulkEntries {H : Type} : List (Lit × DataW H) → Nat
  | [] => 0
  | x :: r => uptoBulkEntry x + uptoBulkEntries r
def uptoBulkEntry {H : Type} : Lit × DataW H → Nat
  | (.string bytes, d) => bytes.length + uptoBulk d + 1
  | (_, d) => uptoBulk d + 1
 end
def uptoSmall : (H : Type) → List (DataW H) → Bool := fun _ ds => decide (uptoBulkAll ds ≤ 1048576)
def OpenSpec.upto (s : _root_.Go.ChangeSpec) : _root_.Go.OpenSpec := { _root_.Go.OpenSpec.ofChange s with cond := some uptoSmall }

/-- 'reevelaw17.TakeKnown', WHERE WHAT IT READS IS OF BULK AT MOST 1048576: true; the input reads as it did. -/
def takeKnownUptoRow : OpenClaim := { program := "ytjnohbahjlidoaagreat", sum := "253b3d2f7994d558ba105d14b9731312c263a27c843b1eed62229bf8d734c390", func := "reeve/reevelaw17.TakeKnown", spec := "takeKnown", recurses := true, apart := false, narrowed := true }
def TakeKnownUptoSaid : Prop := takeKnownUptoRow.holds Tryz.pinned (OpenSpec.upto takeKnownSpec)

/-- 'reevelaw17.TakeCopies', WHERE WHAT IT READS IS OF BULK AT MOST 1048576: true; the input reads as it did. -/
def takeCopiesUptoRow : OpenClaim := { program := "ytjnohbahjlidoaagreat", sum := "253b3d2f7994d558ba105d14b9731312c263a27c843b1eed62229bf8d734c390", func := "reeve/reevelaw17.TakeCopies", spec := "takeCopies", recurses := true, apart := false, narrowed := true }
def TakeCopiesUptoSaid : Prop := takeCopiesUptoRow.holds Tryz.pinned (OpenSpec.upto takeCopiesSpec)

/-- 'reevelaw17.TakeAll', WHERE WHAT IT READS IS OF BULK AT MOST 1048576: true; the input reads as it did. -/
def takeAllUptoRow : OpenClaim := { program := "ytjnohbahjlidoaagreat", sum := "253b3d2f7994d558ba105d14b9731312c263a27c843b1eed62229bf8d734c390", func := "reeve/reevelaw17.TakeAll", spec := "takeAll", recurses := true, apart := false, narrowed := true }
def TakeAllUptoSaid : Prop := takeAllUptoRow.holds Tryz.pinned (OpenSpec.upto takeAllSpec)

/-- 'reevelaw15.CarveSays', WHERE WHAT IT READS IS OF BULK AT MOST 1048576: true; the input reads as it did. -/
def carveSaysUptoRow : OpenClaim := { program := "ytjnohbahjlidoaagreat", sum := "253b3d2f7994d558ba105d14b9731312c263a27c843b1eed62229bf8d734c390", func := "reeve/reevelaw15.CarveSays", spec := "carveSays", recurses := true, apart := false, narrowed := true }
def CarveSaysUptoSaid : Prop := carveSaysUptoRow.holds Tryz.pinned (OpenSpec.upto carveSaysSpec)

/-- 'reevelaw16.GiveSays', WHERE WHAT IT READS IS OF BULK AT MOST 1048576: true; the input reads as it did. -/
def giveSaysUptoRow : OpenClaim := { program := "ytjnohbahjlidoaagreat", sum := "253b3d2f7994d558ba105d14b9731312c263a27c843b1eed62229bf8d734c390", func := "reeve/reevelaw16.GiveSays", spec := "giveSays", recurses := true, apart := false, narrowed := true }
def GiveSaysUptoSaid : Prop := giveSaysUptoRow.holds Tryz.pinned (OpenSpec.upto giveSaysSpec)

end Rows
end Go.Proofs.YtjnohbahjlidoaaGreat
