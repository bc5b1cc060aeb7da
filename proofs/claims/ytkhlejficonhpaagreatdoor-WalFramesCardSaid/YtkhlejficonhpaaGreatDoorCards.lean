/-
  DERIVED. GIVEN WITH THE SEED: THE CARDS: each row of YtkhlejficonhpaaGreatDoorRows.lean that lists a variable, with what it lists TIED to the program's text (the seventh form; the later family's looks); each row that meets fmt, with fmt's text TOLD by the authors' own Lean function (tested against real Go, not proved from fmt's source: count such statements apart). THE CARD IS WHAT COUNTS. Prove the row's statement (the work); the ties are given (YtkhlejficonhpaaGreatDoorTie.lean); close each card by the builder's one call (the guide's Derived/Test/ToyasCard.lean, 'card_holds'). Laid BY PROGRAM, IN A SANDBOX (cutbox-door.mjs). By AI agents, Wed Nov 11 2026. No macro, syntax, notation, axiom, sorry.
-/
import Derived.Test.YtkhlejficonhpaaGreatDoorRows
import GoSem.ClaimSeven
namespace Go.Proofs.YtkhlejficonhpaaGreatDoor
namespace Rows

/-- THE TIED CARD OF 'exlaw2.WalKept'. -/
def walKeptCard : Claim7 := { stood := { row := walKeptRow, standIns := [], harness := (true, "51724a1527999634438dcfae7e081f0e459fe81bbc5d03e1ee88b4aad3a3d045"), looks := false }, kinds := [], alts := [], laidByText := true, laidKinds := [.data, .data, .data, .data], laidTests := true, laidLooks := .later }
def WalKeptCardSaid : Prop := Claim7.holds Tryz.pinned (.plain (OpenSpec.ofChange walKeptSpec)) walKeptCard

/-- THE TIED CARD OF 'exlaw2.WalFrames'. -/
def walFramesCard : Claim7 := { stood := { row := walFramesRow, standIns := [], harness := (true, "51724a1527999634438dcfae7e081f0e459fe81bbc5d03e1ee88b4aad3a3d045"), looks := false }, kinds := [], alts := [], laidByText := true, laidKinds := [.data, .data, .data, .data], laidTests := true, laidLooks := .later }
def WalFramesCardSaid : Prop := Claim7.holds Tryz.pinned (.plain (OpenSpec.ofChange walFramesSpec)) walFramesCard

/-- THE TIED CARD OF 'exlaw2.WalWrites'. -/
def walWritesCard : Claim7 := { stood := { row := walWritesRow, standIns := [], harness := (true, "51724a1527999634438dcfae7e081f0e459fe81bbc5d03e1ee88b4aad3a3d045"), looks := false }, kinds := [], alts := [], laidByText := true, laidKinds := [.data, .data, .data, .data], laidTests := true, laidLooks := .later }
def WalWritesCardSaid : Prop := Claim7.holds Tryz.pinned (.plain (OpenSpec.ofChange walWritesSpec)) walWritesCard

/-- THE TIED CARD OF 'exlaw2.WalOpens'. -/
def walOpensCard : Claim7 := { stood := { row := walOpensRow, standIns := [], harness := (true, "51724a1527999634438dcfae7e081f0e459fe81bbc5d03e1ee88b4aad3a3d045"), looks := false }, kinds := [], alts := [], laidByText := true, laidKinds := [.data, .data, .data, .data], laidTests := true, laidLooks := .later }
def WalOpensCardSaid : Prop := Claim7.holds Tryz.pinned (.plain (OpenSpec.ofChange walOpensSpec)) walOpensCard

/-- THE TIED CARD OF 'exlaw2.WalFull'. -/
def walFullCard : Claim7 := { stood := { row := walFullRow, standIns := [], harness := (true, "51724a1527999634438dcfae7e081f0e459fe81bbc5d03e1ee88b4aad3a3d045"), looks := false }, kinds := [], alts := [], laidByText := true, laidKinds := [.data, .data, .data, .data], laidTests := true, laidLooks := .later }
def WalFullCardSaid : Prop := Claim7.holds Tryz.pinned (.plain (OpenSpec.ofChange walFullSpec)) walFullCard

/-- THE TIED CARD OF 'exlaw2.WalStuck'. -/
def walStuckCard : Claim7 := { stood := { row := walStuckRow, standIns := [], harness := (true, "51724a1527999634438dcfae7e081f0e459fe81bbc5d03e1ee88b4aad3a3d045"), looks := false }, kinds := [], alts := [], laidByText := true, laidKinds := [.data, .data, .data, .data], laidTests := true, laidLooks := .later }
def WalStuckCardSaid : Prop := Claim7.holds Tryz.pinned (.plain (OpenSpec.ofChange walStuckSpec)) walStuckCard

/-- THE TIED CARD OF 'exlaw2.WalApart'. -/
def walApartCard : Claim7 := { stood := { row := walApartRow, standIns := [], harness := (true, "51724a1527999634438dcfae7e081f0e459fe81bbc5d03e1ee88b4aad3a3d045"), looks := false }, kinds := [], alts := [], laidByText := true, laidKinds := [.data, .data, .data, .data], laidTests := true, laidLooks := .later }
def WalApartCardSaid : Prop := Claim7.holds Tryz.pinned (.plain (OpenSpec.ofChange walApartSpec)) walApartCard

/-- THE SECOND FORM's CARD OF 'exlaw2.WalKept'. -/
def walKeptUptoCard : Claim7 := { stood := { row := walKeptUptoRow, standIns := [], harness := (true, "51724a1527999634438dcfae7e081f0e459fe81bbc5d03e1ee88b4aad3a3d045"), looks := false }, kinds := [], alts := [], laidByText := true, laidKinds := [.data, .data, .data, .data], laidTests := true, laidLooks := .later }
def WalKeptUptoCardSaid : Prop := Claim7.holds Tryz.pinned (.plain (OpenSpec.upto walKeptSpec)) walKeptUptoCard

/-- THE SECOND FORM's CARD OF 'exlaw2.WalFrames'. -/
def walFramesUptoCard : Claim7 := { stood := { row := walFramesUptoRow, standIns := [], harness := (true, "51724a1527999634438dcfae7e081f0e459fe81bbc5d03e1ee88b4aad3a3d045"), looks := false }, kinds := [], alts := [], laidByText := true, laidKinds := [.data, .data, .data, .data], laidTests := true, laidLooks := .later }
def WalFramesUptoCardSaid : Prop := Claim7.holds Tryz.pinned (.plain (OpenSpec.upto walFramesSpec)) walFramesUptoCard

/-- THE SECOND FORM's CARD OF 'exlaw2.WalWrites'. -/
def walWritesUptoCard : Claim7 := { stood := { row := walWritesUptoRow, standIns := [], harness := (true, "51724a1527999634438dcfae7e081f0e459fe81bbc5d03e1ee88b4aad3a3d045"), looks := false }, kinds := [], alts := [], laidByText := true, laidKinds := [.data, .data, .data, .data], laidTests := true, laidLooks := .later }
def WalWritesUptoCardSaid : Prop := Claim7.holds Tryz.pinned (.plain (OpenSpec.upto walWritesSpec)) walWritesUptoCard

/-- THE SECOND FORM's CARD OF 'exlaw2.WalOpens'. -/
def walOpensUptoCard : Claim7 := { stood := { row := walOpensUptoRow, standIns := [], harness := (true, "51724a1527999634438dcfae7e081f0e459fe81bbc5d03e1ee88b4aad3a3d045"), looks := false }, kinds := [], alts := [], laidByText := true, laidKinds := [.data, .data, .data, .data], laidTests := true, laidLooks := .later }
def WalOpensUptoCardSaid : Prop := Claim7.holds Tryz.pinned (.plain (OpenSpec.upto walOpensSpec)) walOpensUptoCard

/-- THE SECOND FORM's CARD OF 'exlaw2.WalFull'. -/
def walFullUptoCard : Claim7 := { stood := { row := walFullUptoRow, standIns := [], harness := (true, "51724a1527999634438dcfae7e081f0e459fe81bbc5d03e1ee88b4aad3a3d045"), looks := false }, kinds := [], alts := [], laidByText := true, laidKinds := [.data, .data, .data, .data], laidTests := true, laidLooks := .later }
def WalFullUptoCardSaid : Prop := Claim7.holds Tryz.pinned (.plain (OpenSpec.upto walFullSpec)) walFullUptoCard

/-- THE SECOND FORM's CARD OF 'exlaw2.WalStuck'. -/
def walStuckUptoCard : Claim7 := { stood := { row := walStuckUptoRow, standIns := [], harness := (true, "51724a1527999634438dcfae7e081f0e459fe81bbc5d03e1ee88b4aad3a3d045"), looks := false }, kinds := [], alts := [], laidByText := true, laidKinds := [.data, .data, .data, .data], laidTests := true, laidLooks := .later }
def WalStuckUptoCardSaid : Prop := Claim7.holds Tryz.pinned (.plain (OpenSpec.upto walStuckSpec)) walStuckUptoCard

/-- THE SECOND FORM's CARD OF 'exlaw2.WalApart'. -/
def walApartUptoCard : Claim7 := { stood := { row := walApartUptoRow, standIns := [], harness := (true, "51724a1527999634438dcfae7e081f0e459fe81bbc5d03e1ee88b4aad3a3d045"), looks := false }, kinds := [], alts := [], laidByText := true, laidKinds := [.data, .data, .data, .data], laidTests := true, laidLooks := .later }
def WalApartUptoCardSaid : Prop := Claim7.holds Tryz.pinned (.plain (OpenSpec.upto walApartSpec)) walApartUptoCard
end Rows
end Go.Proofs.YtkhlejficonhpaaGreatDoor
