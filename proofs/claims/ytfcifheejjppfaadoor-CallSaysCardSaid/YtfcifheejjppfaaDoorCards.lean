/-
  DERIVED. GIVEN WITH THE SEED: THE CARDS: each row of YtfcifheejjppfaaDoorRows.lean that lists a variable, with what it lists TIED to the program's text (the seventh form; the later family's looks); each row that meets fmt, with fmt's text TOLD by the authors' own Lean function (tested against real Go, not proved from fmt's source: count such statements apart). THE CARD IS WHAT COUNTS. Prove the row's statement (the work); the ties are given (YtfcifheejjppfaaDoorTie.lean); close each card by the builder's one call (the guide's Derived/Test/ToyasCard.lean, 'card_holds'). Laid BY PROGRAM, IN A SANDBOX (cutbox-door.mjs). By AI agents, Wed Nov 11 2026. No macro, syntax, notation, axiom, sorry.
-/
import Derived.Test.YtfcifheejjppfaaDoorRows
import GoSem.ClaimSeven
namespace Go.Proofs.YtfcifheejjppfaaDoor
namespace Rows

/-- THE TIED CARD OF 'reevelaw14.CallKnown'. -/
def callKnownCard : Claim7 := { stood := { row := callKnownRow, standIns := [], harness := (true, "86abc5b42c26090cf5d037d71ed0b9bd886d8ac7ac704be8bc97ed8b36eb623a"), looks := false }, kinds := [], alts := [], laidByText := true, laidKinds := [.data, .data, .data], laidTests := true, laidLooks := .later }
def CallKnownCardSaid : Prop := Claim7.holds Tryd.pinned (.plain (OpenSpec.ofChange callKnownSpec)) callKnownCard

/-- THE TIED CARD OF 'reevelaw14.CallSays'. -/
def callSaysCard : Claim7 := { stood := { row := callSaysRow, standIns := [], harness := (true, "86abc5b42c26090cf5d037d71ed0b9bd886d8ac7ac704be8bc97ed8b36eb623a"), looks := false }, kinds := [], alts := [], laidByText := true, laidKinds := [.data, .data, .data], laidTests := true, laidLooks := .later }
def CallSaysCardSaid : Prop := Claim7.holds Tryd.pinned (.plain (OpenSpec.ofChange callSaysSpec)) callSaysCard

/-- THE TIED CARD OF 'reevelaw14.CallBack'. -/
def callBackCard : Claim7 := { stood := { row := callBackRow, standIns := [], harness := (true, "86abc5b42c26090cf5d037d71ed0b9bd886d8ac7ac704be8bc97ed8b36eb623a"), looks := false }, kinds := [], alts := [], laidByText := true, laidKinds := [.data, .data, .data], laidTests := true, laidLooks := .later }
def CallBackCardSaid : Prop := Claim7.holds Tryd.pinned (.plain (OpenSpec.ofChange callBackSpec)) callBackCard

/-- THE TIED CARD OF 'reevelaw14.CallApart'. -/
def callApartCard : Claim7 := { stood := { row := callApartRow, standIns := [], harness := (true, "86abc5b42c26090cf5d037d71ed0b9bd886d8ac7ac704be8bc97ed8b36eb623a"), looks := false }, kinds := [], alts := [], laidByText := true, laidKinds := [.data, .data, .data], laidTests := true, laidLooks := .later }
def CallApartCardSaid : Prop := Claim7.holds Tryd.pinned (.plain (OpenSpec.ofChange callApartSpec)) callApartCard

/-- THE SECOND FORM's CARD OF 'reevelaw14.CallKnown'. -/
def callKnownUptoCard : Claim7 := { stood := { row := callKnownUptoRow, standIns := [], harness := (true, "86abc5b42c26090cf5d037d71ed0b9bd886d8ac7ac704be8bc97ed8b36eb623a"), looks := false }, kinds := [], alts := [], laidByText := true, laidKinds := [.data, .data, .data], laidTests := true, laidLooks := .later }
def CallKnownUptoCardSaid : Prop := Claim7.holds Tryd.pinned (.plain (OpenSpec.upto callKnownSpec)) callKnownUptoCard

/-- THE SECOND FORM's CARD OF 'reevelaw14.CallSays'. -/
def callSaysUptoCard : Claim7 := { stood := { row := callSaysUptoRow, standIns := [], harness := (true, "86abc5b42c26090cf5d037d71ed0b9bd886d8ac7ac704be8bc97ed8b36eb623a"), looks := false }, kinds := [], alts := [], laidByText := true, laidKinds := [.data, .data, .data], laidTests := true, laidLooks := .later }
def CallSaysUptoCardSaid : Prop := Claim7.holds Tryd.pinned (.plain (OpenSpec.upto callSaysSpec)) callSaysUptoCard

/-- THE SECOND FORM's CARD OF 'reevelaw14.CallBack'. -/
def callBackUptoCard : Claim7 := { stood := { row := callBackUptoRow, standIns := [], harness := (true, "86abc5b42c26090cf5d037d71ed0b9bd886d8ac7ac704be8bc97ed8b36eb623a"), looks := false }, kinds := [], alts := [], laidByText := true, laidKinds := [.data, .data, .data], laidTests := true, laidLooks := .later }
def CallBackUptoCardSaid : Prop := Claim7.holds Tryd.pinned (.plain (OpenSpec.upto callBackSpec)) callBackUptoCard

/-- THE SECOND FORM's CARD OF 'reevelaw14.CallApart'. -/
def callApartUptoCard : Claim7 := { stood := { row := callApartUptoRow, standIns := [], harness := (true, "86abc5b42c26090cf5d037d71ed0b9bd886d8ac7ac704be8bc97ed8b36eb623a"), looks := false }, kinds := [], alts := [], laidByText := true, laidKinds := [.data, .data, .data], laidTests := true, laidLooks := .later }
def CallApartUptoCardSaid : Prop := Claim7.holds Tryd.pinned (.plain (OpenSpec.upto callApartSpec)) callApartUptoCard
end Rows
end Go.Proofs.YtfcifheejjppfaaDoor
