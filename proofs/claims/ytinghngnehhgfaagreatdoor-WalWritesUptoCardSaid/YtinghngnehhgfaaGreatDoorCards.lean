/-
  DERIVED. GIVEN WITH THE SEED: THE CARDS: each row of YtinghngnehhgfaaGreatDoorRows.lean that lists a variable, with what it lists TIED to the program's text (the seventh form; the later family's looks); each row that meets fmt, with fmt's text TOLD by the authors' own Lean function (tested against real Go, not proved from fmt's source: count such statements apart). THE CARD IS WHAT COUNTS. Prove the row's statement (the work); the ties are given (YtinghngnehhgfaaGreatDoorTie.lean); close each card by the builder's one call (the guide's Derived/Test/ToyasCard.lean, 'card_holds'). Laid BY PROGRAM, IN A SANDBOX (cutbox-door.mjs). By AI agents, Wed Nov 11 2026. No macro, syntax, notation, axiom, sorry.
-/
import Derived.Test.YtinghngnehhgfaaGreatDoorRows
import GoSem.ClaimSeven
namespace Go.Proofs.YtinghngnehhgfaaGreatDoor
namespace Rows

/-- THE TIED CARD OF 'exlaw2.WalWrites'. -/
def walWritesCard : Claim7 := { stood := { row := walWritesRow, standIns := [], harness := (true, "efc5780be55a5f9c64f897c7af5a7aa464fd9fc9d5d7c68d43943aca74cc2f38"), looks := false }, kinds := [], alts := [], laidByText := true, laidKinds := [.data, .data, .data, .data], laidTests := true, laidLooks := .later }
def WalWritesCardSaid : Prop := Claim7.holds Tryz.pinned (.plain (OpenSpec.ofChange walWritesSpec)) walWritesCard

/-- THE SECOND FORM's CARD OF 'exlaw2.WalWrites'. -/
def walWritesUptoCard : Claim7 := { stood := { row := walWritesUptoRow, standIns := [], harness := (true, "efc5780be55a5f9c64f897c7af5a7aa464fd9fc9d5d7c68d43943aca74cc2f38"), looks := false }, kinds := [], alts := [], laidByText := true, laidKinds := [.data, .data, .data, .data], laidTests := true, laidLooks := .later }
def WalWritesUptoCardSaid : Prop := Claim7.holds Tryz.pinned (.plain (OpenSpec.upto walWritesSpec)) walWritesUptoCard
end Rows
end Go.Proofs.YtinghngnehhgfaaGreatDoor
