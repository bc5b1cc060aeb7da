/-
  DERIVED. GIVEN WITH THE SEED: THE CARDS: each row of YtipcdbdlopmdoaaDoorRows.lean that lists a variable, with what it lists TIED to the program's text (the seventh form; the later family's looks); each row that meets fmt, with fmt's text TOLD by the authors' own Lean function (tested against real Go, not proved from fmt's source: count such statements apart). THE CARD IS WHAT COUNTS. Prove the row's statement (the work); the ties are given (YtipcdbdlopmdoaaDoorTie.lean); close each card by the builder's one call (the guide's Derived/Test/ToyasCard.lean, 'card_holds'). Laid BY PROGRAM, IN A SANDBOX (cutbox-door.mjs). By AI agents, Wed Nov 11 2026. No macro, syntax, notation, axiom, sorry.
-/
import Derived.Test.YtipcdbdlopmdoaaDoorRows
import GoSem.ClaimSeven
namespace Go.Proofs.YtipcdbdlopmdoaaDoor
namespace Rows

/-- THE TIED CARD OF 'exlaw8.KeysOrder'. -/
def keysOrderCard : Claim7 := { stood := { row := keysOrderRow, standIns := [], harness := (true, "19cba4252e041a63afefc9636eb49b0fc89888afa4a3f797036fb1b4c81553f9"), looks := false }, kinds := [], alts := [], laidByText := true, laidKinds := [.data, .pinned], laidTests := true, laidLooks := .later }
def KeysOrderCardSaid : Prop := Claim7.holds Tryd.pinned (.plain (OpenSpec.ofChange keysOrderSpec)) keysOrderCard

/-- THE TIED CARD OF 'exlaw8.KeysBytes'. -/
def keysBytesCard : Claim7 := { stood := { row := keysBytesRow, standIns := [], harness := (true, "19cba4252e041a63afefc9636eb49b0fc89888afa4a3f797036fb1b4c81553f9"), looks := false }, kinds := [], alts := [], laidByText := true, laidKinds := [.data, .pinned], laidTests := true, laidLooks := .later }
def KeysBytesCardSaid : Prop := Claim7.holds Tryd.pinned (.plain (OpenSpec.ofChange keysBytesSpec)) keysBytesCard

/-- THE TIED CARD OF 'exlaw8.KeysRange'. -/
def keysRangeCard : Claim7 := { stood := { row := keysRangeRow, standIns := [], harness := (true, "19cba4252e041a63afefc9636eb49b0fc89888afa4a3f797036fb1b4c81553f9"), looks := false }, kinds := [], alts := [], laidByText := true, laidKinds := [.data, .pinned], laidTests := true, laidLooks := .later }
def KeysRangeCardSaid : Prop := Claim7.holds Tryd.pinned (.plain (OpenSpec.ofChange keysRangeSpec)) keysRangeCard

/-- THE TIED CARD OF 'exlaw8.KeysBack'. -/
def keysBackCard : Claim7 := { stood := { row := keysBackRow, standIns := [], harness := (true, "19cba4252e041a63afefc9636eb49b0fc89888afa4a3f797036fb1b4c81553f9"), looks := false }, kinds := [], alts := [], laidByText := true, laidKinds := [.data, .pinned], laidTests := true, laidLooks := .later }
def KeysBackCardSaid : Prop := Claim7.holds Tryd.pinned (.plain (OpenSpec.ofChange keysBackSpec)) keysBackCard

/-- THE SECOND FORM's CARD OF 'exlaw8.KeysOrder'. -/
def keysOrderUptoCard : Claim7 := { stood := { row := keysOrderUptoRow, standIns := [], harness := (true, "19cba4252e041a63afefc9636eb49b0fc89888afa4a3f797036fb1b4c81553f9"), looks := false }, kinds := [], alts := [], laidByText := true, laidKinds := [.data, .pinned], laidTests := true, laidLooks := .later }
def KeysOrderUptoCardSaid : Prop := Claim7.holds Tryd.pinned (.plain (OpenSpec.upto keysOrderSpec)) keysOrderUptoCard

/-- THE SECOND FORM's CARD OF 'exlaw8.KeysBytes'. -/
def keysBytesUptoCard : Claim7 := { stood := { row := keysBytesUptoRow, standIns := [], harness := (true, "19cba4252e041a63afefc9636eb49b0fc89888afa4a3f797036fb1b4c81553f9"), looks := false }, kinds := [], alts := [], laidByText := true, laidKinds := [.data, .pinned], laidTests := true, laidLooks := .later }
def KeysBytesUptoCardSaid : Prop := Claim7.holds Tryd.pinned (.plain (OpenSpec.upto keysBytesSpec)) keysBytesUptoCard

/-- THE SECOND FORM's CARD OF 'exlaw8.KeysRange'. -/
def keysRangeUptoCard : Claim7 := { stood := { row := keysRangeUptoRow, standIns := [], harness := (true, "19cba4252e041a63afefc9636eb49b0fc89888afa4a3f797036fb1b4c81553f9"), looks := false }, kinds := [], alts := [], laidByText := true, laidKinds := [.data, .pinned], laidTests := true, laidLooks := .later }
def KeysRangeUptoCardSaid : Prop := Claim7.holds Tryd.pinned (.plain (OpenSpec.upto keysRangeSpec)) keysRangeUptoCard

/-- THE SECOND FORM's CARD OF 'exlaw8.KeysBack'. -/
def keysBackUptoCard : Claim7 := { stood := { row := keysBackUptoRow, standIns := [], harness := (true, "19cba4252e041a63afefc9636eb49b0fc89888afa4a3f797036fb1b4c81553f9"), looks := false }, kinds := [], alts := [], laidByText := true, laidKinds := [.data, .pinned], laidTests := true, laidLooks := .later }
def KeysBackUptoCardSaid : Prop := Claim7.holds Tryd.pinned (.plain (OpenSpec.upto keysBackSpec)) keysBackUptoCard
end Rows
end Go.Proofs.YtipcdbdlopmdoaaDoor
