/-
  No cell of these rows narrows 'for every input' (looked for: loops, veiled, ifaces, maps, wideKeys, modest, calm, conditions, laid).
  DERIVED. THE GIVEN ROWS OF THIS SEAT. 3 by the template 'for every input the law returns true; each argument reads behind the call as it read before'; 0 by the template 'total and deterministic' (their statements: YtibdmceanddeaaaTotals.lean).
  GIVEN WITH THE SEED: the statements are not yours to turn. If you find one false, say at which input.
  Laid BY PROGRAM, IN A SANDBOX (cutbox-rows.mjs): the forced cells as the released guide's own fill.sh prints them over the translation 7fc707bc8f17ce0e… (all of the seat's roots in one cut). By AI agents, Wed Nov 11 2026. No macro, syntax, notation, axiom, sorry.
-/
import Derived.Test.YtibdmceanddeaaaChecked
import GoSem.Claim
import GoSem.ClaimJoined
import GoSem.ClaimMapViews
import Derived.JoinedTies
import Derived.KernelRfl
namespace Go.Proofs.Ytibdmceanddeaaa
/- THE CELL 'sum', in the pinned program and in every row, IS THE sha256 OF THE DUMP (.gsa) THAT YtibdmceanddeaaaProg.lean LOADS. Nothing in Lean hashes anything: it is a label: what it is worth is what the hold of that sum in a sandbox is worth. -/
noncomputable def Try.pinned : Pinned := { name := "ytibdmceanddeaaa", sum := "7fc707bc8f17ce0e0514108db78e65d15ac2849e51f0db514a75dd80831baed6", checked := Try.checked }
namespace Rows
def none {H : Type} : Left H := { results := [], args := [] }

/-- 'reevelaw5.GeoKnown': WHATEVER THE INPUT: true; the input reads as it did. -/
def geoKnownSpec : ChangeSpec := { name := "geoKnown", fn := fun _ => fun
  | [] => { results := [.lit (.bool true)], args := [] }
  | _ => none }
def geoKnownRow : OpenClaim := { program := "ytibdmceanddeaaa", sum := "7fc707bc8f17ce0e0514108db78e65d15ac2849e51f0db514a75dd80831baed6", func := "reeve/reevelaw5.GeoKnown", spec := "geoKnown", apart := false }
def GeoKnownSaid : Prop := geoKnownRow.holds Try.pinned (OpenSpec.ofChange geoKnownSpec)

/-- ITS FALSE NEIGHBOUR: 'it returns false'. Refute it at one input. -/
def geoKnownWrong : ChangeSpec := { name := "geoKnown", fn := fun _ => fun
  | [] => { results := [.lit (.bool false)], args := [] }
  | _ => none }
def GeoKnownWrongFalsely : Prop := geoKnownRow.holds Try.pinned (OpenSpec.ofChange geoKnownWrong)

/-- 'reevelaw5.GeoSays': WHATEVER THE INPUT: true; the input reads as it did. -/
def geoSaysSpec : ChangeSpec := { name := "geoSays", fn := fun _ => fun
  | [d1, d2] => { results := [.lit (.bool true)], args := [d1, d2] }
  | _ => none }
def geoSaysRow : OpenClaim := { program := "ytibdmceanddeaaa", sum := "7fc707bc8f17ce0e0514108db78e65d15ac2849e51f0db514a75dd80831baed6", func := "reeve/reevelaw5.GeoSays", spec := "geoSays", apart := false }
def GeoSaysSaid : Prop := geoSaysRow.holds Try.pinned (OpenSpec.ofChange geoSaysSpec)

/-- ITS FALSE NEIGHBOUR: 'it returns false'. Refute it at one input. -/
def geoSaysWrong : ChangeSpec := { name := "geoSays", fn := fun _ => fun
  | [d1, d2] => { results := [.lit (.bool false)], args := [d1, d2] }
  | _ => none }
def GeoSaysWrongFalsely : Prop := geoSaysRow.holds Try.pinned (OpenSpec.ofChange geoSaysWrong)

/-- 'reevelaw5.GeoApart': WHATEVER THE INPUT: true; the input reads as it did. -/
def geoApartSpec : ChangeSpec := { name := "geoApart", fn := fun _ => fun
  | [d] => { results := [.lit (.bool true)], args := [d] }
  | _ => none }
def geoApartRow : OpenClaim := { program := "ytibdmceanddeaaa", sum := "7fc707bc8f17ce0e0514108db78e65d15ac2849e51f0db514a75dd80831baed6", func := "reeve/reevelaw5.GeoApart", spec := "geoApart", apart := false }
def GeoApartSaid : Prop := geoApartRow.holds Try.pinned (OpenSpec.ofChange geoApartSpec)

/-- ITS FALSE NEIGHBOUR: 'it returns false'. Refute it at one input. -/
def geoApartWrong : ChangeSpec := { name := "geoApart", fn := fun _ => fun
  | [d] => { results := [.lit (.bool false)], args := [d] }
  | _ => none }
def GeoApartWrongFalsely : Prop := geoApartRow.holds Try.pinned (OpenSpec.ofChange geoApartWrong)

/- THE SECOND FORM. 'bulk': how many values and letters a reading holds, each counted each time it is reached (what is shared counts as often as it is met; a slice's spare places count too). A statement '..UptoSaid' is the law's where the arguments, and the package variables that the reading takes, are together of bulk at most 1048576: NARROWER than '..Said'. Prove '..Said' where nothing that the law and all that it calls make is longer than what came in: it says more and counts as full. Else prove '..UptoSaid'. A law counts once. -/
mutual
def uptoBulk {H : Type} : DataW H → Nat
  | .lit (.string bytes) => bytes.length + 1
  | .lit _ => 1
  | .nil => 1
  | .ptr d => uptoBulk d + 1
  | .slice elems spare => uptoBulkAll elems + uptoBulkAll spare + 1
  | .agg parts => uptoBulkAll parts + 1
  | .iface _ d => uptoBulk d + 1
  | .map entries => uptoBulkEntries entries + 1
  | .held _ => 1
def uptoBulkAll {H : Type} : List (DataW H) → Nat
  | [] => 0
  | d :: r => uptoBulk d + uptoBulkAll r
def uptoBulkEntries {H : Type} : List (Lit × DataW H) → Nat
  | [] => 0
  | x :: r => uptoBulkEntry x + uptoBulkEntries r
def uptoBulkEntry {H : Type} : Lit × DataW H → Nat
  | (.string bytes, d) => bytes.length + uptoBulk d + 1
  | (_, d) => uptoBulk d + 1
 end
def uptoSmall : (H : Type) → List (DataW H) → Bool := fun _ ds => decide (uptoBulkAll ds ≤ 1048576)
def OpenSpec.upto (s : _root_.Go.ChangeSpec) : _root_.Go.OpenSpec := { _root_.Go.OpenSpec.ofChange s with cond := some uptoSmall }

/-- 'reevelaw5.GeoKnown', WHERE WHAT IT READS IS OF BULK AT MOST 1048576: true; the input reads as it did. -/
def geoKnownUptoRow : OpenClaim := { program := "ytibdmceanddeaaa", sum := "7fc707bc8f17ce0e0514108db78e65d15ac2849e51f0db514a75dd80831baed6", func := "reeve/reevelaw5.GeoKnown", spec := "geoKnown", apart := false, narrowed := true }
def GeoKnownUptoSaid : Prop := geoKnownUptoRow.holds Try.pinned (OpenSpec.upto geoKnownSpec)

/-- 'reevelaw5.GeoSays', WHERE WHAT IT READS IS OF BULK AT MOST 1048576: true; the input reads as it did. -/
def geoSaysUptoRow : OpenClaim := { program := "ytibdmceanddeaaa", sum := "7fc707bc8f17ce0e0514108db78e65d15ac2849e51f0db514a75dd80831baed6", func := "reeve/reevelaw5.GeoSays", spec := "geoSays", apart := false, narrowed := true }
def GeoSaysUptoSaid : Prop := geoSaysUptoRow.holds Try.pinned (OpenSpec.upto geoSaysSpec)

/-- 'reevelaw5.GeoApart', WHERE WHAT IT READS IS OF BULK AT MOST 1048576: true; the input reads as it did. -/
def geoApartUptoRow : OpenClaim := { program := "ytibdmceanddeaaa", sum := "7fc707bc8f17ce0e0514108db78e65d15ac2849e51f0db514a75dd80831baed6", func := "reeve/reevelaw5.GeoApart", spec := "geoApart", apart := false, narrowed := true }
def GeoApartUptoSaid : Prop := geoApartUptoRow.holds Try.pinned (OpenSpec.upto geoApartSpec)

end Rows
end Go.Proofs.Ytibdmceanddeaaa
