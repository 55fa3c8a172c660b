/-
  DERIVED. GIVEN WITH THE SEED: THE CARDS: each row of YtlhdpmkakmkknaaDoorRows.lean that lists a variable, with what it lists TIED to the program's text (the seventh form; the later family's looks); each row that meets fmt, with fmt's text TOLD by the authors' own Lean function (tested against real Go, not proved from fmt's source: count such statements apart). THE CARD IS WHAT COUNTS. Prove the row's statement (the work); the ties are given (YtlhdpmkakmkknaaDoorTie.lean); close each card by the builder's one call (the guide's Derived/Test/ToyasCard.lean, 'card_holds'). Laid BY PROGRAM, IN A SANDBOX (cutbox-door.mjs). By AI agents, Wed Nov 11 2026. No macro, syntax, notation, axiom, sorry.
-/
import Derived.Test.YtlhdpmkakmkknaaDoorRows
import GoSem.ClaimSeven
namespace Go.Proofs.YtlhdpmkakmkknaaDoor
namespace Rows

/-- THE TIED CARD OF 'reevelaw8.CapKnown'. -/
def capKnownCard : Claim7 := { stood := { row := capKnownRow, standIns := [], harness := (true, "2db8762a63ba94d4c21fc25fdf14114b914ae3a89a2f1414b080f7dbf6e6fc0b"), looks := false }, kinds := [], alts := [], laidByText := true, laidKinds := [.data, .data, .data], laidTests := true, laidLooks := .later }
def CapKnownCardSaid : Prop := Claim7.holds Tryd.pinned (.plain (OpenSpec.ofChange capKnownSpec)) capKnownCard

/-- THE TIED CARD OF 'reevelaw8.CapSays'. -/
def capSaysCard : Claim7 := { stood := { row := capSaysRow, standIns := [], harness := (true, "2db8762a63ba94d4c21fc25fdf14114b914ae3a89a2f1414b080f7dbf6e6fc0b"), looks := false }, kinds := [], alts := [], laidByText := true, laidKinds := [.data, .data, .data], laidTests := true, laidLooks := .later }
def CapSaysCardSaid : Prop := Claim7.holds Tryd.pinned (.plain (OpenSpec.ofChange capSaysSpec)) capSaysCard

/-- THE TIED CARD OF 'reevelaw8.CapLess'. -/
def capLessCard : Claim7 := { stood := { row := capLessRow, standIns := [], harness := (true, "2db8762a63ba94d4c21fc25fdf14114b914ae3a89a2f1414b080f7dbf6e6fc0b"), looks := false }, kinds := [], alts := [], laidByText := true, laidKinds := [.data, .data, .data], laidTests := true, laidLooks := .later }
def CapLessCardSaid : Prop := Claim7.holds Tryd.pinned (.plain (OpenSpec.ofChange capLessSpec)) capLessCard

/-- THE TIED CARD OF 'reevelaw8.CapBack'. -/
def capBackCard : Claim7 := { stood := { row := capBackRow, standIns := [], harness := (true, "2db8762a63ba94d4c21fc25fdf14114b914ae3a89a2f1414b080f7dbf6e6fc0b"), looks := false }, kinds := [], alts := [], laidByText := true, laidKinds := [.data, .data, .data], laidTests := true, laidLooks := .later }
def CapBackCardSaid : Prop := Claim7.holds Tryd.pinned (.plain (OpenSpec.ofChange capBackSpec)) capBackCard

/-- THE TIED CARD OF 'reevelaw8.CapCuts'. -/
def capCutsCard : Claim7 := { stood := { row := capCutsRow, standIns := [], harness := (true, "2db8762a63ba94d4c21fc25fdf14114b914ae3a89a2f1414b080f7dbf6e6fc0b"), looks := false }, kinds := [], alts := [], laidByText := true, laidKinds := [.data, .data, .data], laidTests := true, laidLooks := .later }
def CapCutsCardSaid : Prop := Claim7.holds Tryd.pinned (.plain (OpenSpec.ofChange capCutsSpec)) capCutsCard

/-- THE SECOND FORM's CARD OF 'reevelaw8.CapKnown'. -/
def capKnownUptoCard : Claim7 := { stood := { row := capKnownUptoRow, standIns := [], harness := (true, "2db8762a63ba94d4c21fc25fdf14114b914ae3a89a2f1414b080f7dbf6e6fc0b"), looks := false }, kinds := [], alts := [], laidByText := true, laidKinds := [.data, .data, .data], laidTests := true, laidLooks := .later }
def CapKnownUptoCardSaid : Prop := Claim7.holds Tryd.pinned (.plain (OpenSpec.upto capKnownSpec)) capKnownUptoCard

/-- THE SECOND FORM's CARD OF 'reevelaw8.CapSays'. -/
def capSaysUptoCard : Claim7 := { stood := { row := capSaysUptoRow, standIns := [], harness := (true, "2db8762a63ba94d4c21fc25fdf14114b914ae3a89a2f1414b080f7dbf6e6fc0b"), looks := false }, kinds := [], alts := [], laidByText := true, laidKinds := [.data, .data, .data], laidTests := true, laidLooks := .later }
def CapSaysUptoCardSaid : Prop := Claim7.holds Tryd.pinned (.plain (OpenSpec.upto capSaysSpec)) capSaysUptoCard

/-- THE SECOND FORM's CARD OF 'reevelaw8.CapLess'. -/
def capLessUptoCard : Claim7 := { stood := { row := capLessUptoRow, standIns := [], harness := (true, "2db8762a63ba94d4c21fc25fdf14114b914ae3a89a2f1414b080f7dbf6e6fc0b"), looks := false }, kinds := [], alts := [], laidByText := true, laidKinds := [.data, .data, .data], laidTests := true, laidLooks := .later }
def CapLessUptoCardSaid : Prop := Claim7.holds Tryd.pinned (.plain (OpenSpec.upto capLessSpec)) capLessUptoCard

/-- THE SECOND FORM's CARD OF 'reevelaw8.CapBack'. -/
def capBackUptoCard : Claim7 := { stood := { row := capBackUptoRow, standIns := [], harness := (true, "2db8762a63ba94d4c21fc25fdf14114b914ae3a89a2f1414b080f7dbf6e6fc0b"), looks := false }, kinds := [], alts := [], laidByText := true, laidKinds := [.data, .data, .data], laidTests := true, laidLooks := .later }
def CapBackUptoCardSaid : Prop := Claim7.holds Tryd.pinned (.plain (OpenSpec.upto capBackSpec)) capBackUptoCard

/-- THE SECOND FORM's CARD OF 'reevelaw8.CapCuts'. -/
def capCutsUptoCard : Claim7 := { stood := { row := capCutsUptoRow, standIns := [], harness := (true, "2db8762a63ba94d4c21fc25fdf14114b914ae3a89a2f1414b080f7dbf6e6fc0b"), looks := false }, kinds := [], alts := [], laidByText := true, laidKinds := [.data, .data, .data], laidTests := true, laidLooks := .later }
def CapCutsUptoCardSaid : Prop := Claim7.holds Tryd.pinned (.plain (OpenSpec.upto capCutsSpec)) capCutsUptoCard
end Rows
end Go.Proofs.YtlhdpmkakmkknaaDoor
