/-
  DERIVED. GIVEN WITH THE SEED: THE CARDS: each row of YtfjemldilnaggaaDoorRows.lean that lists a variable, with what it lists TIED to the program's text (the seventh form; the later family's looks); each row that meets fmt, with fmt's text TOLD by the authors' own Lean function (tested against real Go, not proved from fmt's source: count such statements apart). THE CARD IS WHAT COUNTS. Prove the row's statement (the work); the ties are given (YtfjemldilnaggaaDoorTie.lean); close each card by the builder's one call (the guide's Derived/Test/ToyasCard.lean, 'card_holds'). Laid BY PROGRAM, IN A SANDBOX (cutbox-door.mjs). By AI agents, Wed Nov 11 2026. No macro, syntax, notation, axiom, sorry.
-/
import Derived.Test.YtfjemldilnaggaaDoorRows
import GoSem.ClaimSeven
namespace Go.Proofs.YtfjemldilnaggaaDoor
namespace Rows

/-- THE TIED CARD OF 'exlaw6.MoneyBack'. -/
def moneyBackCard : Claim7 := { stood := { row := moneyBackRow, standIns := [], harness := (true, "d468e956b5ada2ebf43155f5cd45307a9efb43d63d1009c5b28f0f9508051642"), looks := false }, kinds := [], alts := [], laidByText := true, laidKinds := [.data, .data, .data], laidTests := true, laidLooks := .later }
def MoneyBackCardSaid : Prop := Claim7.holds Tryd.pinned (.plain (OpenSpec.ofChange moneyBackSpec)) moneyBackCard

/-- THE TIED CARD OF 'exlaw6.MoneyOrder'. -/
def moneyOrderCard : Claim7 := { stood := { row := moneyOrderRow, standIns := [], harness := (true, "d468e956b5ada2ebf43155f5cd45307a9efb43d63d1009c5b28f0f9508051642"), looks := false }, kinds := [], alts := [], laidByText := true, laidKinds := [.data, .data, .data], laidTests := true, laidLooks := .later }
def MoneyOrderCardSaid : Prop := Claim7.holds Tryd.pinned (.plain (OpenSpec.ofChange moneyOrderSpec)) moneyOrderCard

/-- THE TIED CARD OF 'exlaw6.MoneyRatios'. -/
def moneyRatiosCard : Claim7 := { stood := { row := moneyRatiosRow, standIns := [], harness := (true, "d468e956b5ada2ebf43155f5cd45307a9efb43d63d1009c5b28f0f9508051642"), looks := false }, kinds := [], alts := [], laidByText := true, laidKinds := [.data, .data, .data], laidTests := true, laidLooks := .later }
def MoneyRatiosCardSaid : Prop := Claim7.holds Tryd.pinned (.plain (OpenSpec.ofChange moneyRatiosSpec)) moneyRatiosCard

/-- THE SECOND FORM's CARD OF 'exlaw6.MoneyBack'. -/
def moneyBackUptoCard : Claim7 := { stood := { row := moneyBackUptoRow, standIns := [], harness := (true, "d468e956b5ada2ebf43155f5cd45307a9efb43d63d1009c5b28f0f9508051642"), looks := false }, kinds := [], alts := [], laidByText := true, laidKinds := [.data, .data, .data], laidTests := true, laidLooks := .later }
def MoneyBackUptoCardSaid : Prop := Claim7.holds Tryd.pinned (.plain (OpenSpec.upto moneyBackSpec)) moneyBackUptoCard

/-- THE SECOND FORM's CARD OF 'exlaw6.MoneyOrder'. -/
def moneyOrderUptoCard : Claim7 := { stood := { row := moneyOrderUptoRow, standIns := [], harness := (true, "d468e956b5ada2ebf43155f5cd45307a9efb43d63d1009c5b28f0f9508051642"), looks := false }, kinds := [], alts := [], laidByText := true, laidKinds := [.data, .data, .data], laidTests := true, laidLooks := .later }
def MoneyOrderUptoCardSaid : Prop := Claim7.holds Tryd.pinned (.plain (OpenSpec.upto moneyOrderSpec)) moneyOrderUptoCard

/-- THE SECOND FORM's CARD OF 'exlaw6.MoneyRatios'. -/
def moneyRatiosUptoCard : Claim7 := { stood := { row := moneyRatiosUptoRow, standIns := [], harness := (true, "d468e956b5ada2ebf43155f5cd45307a9efb43d63d1009c5b28f0f9508051642"), looks := false }, kinds := [], alts := [], laidByText := true, laidKinds := [.data, .data, .data], laidTests := true, laidLooks := .later }
def MoneyRatiosUptoCardSaid : Prop := Claim7.holds Tryd.pinned (.plain (OpenSpec.upto moneyRatiosSpec)) moneyRatiosUptoCard
end Rows
end Go.Proofs.YtfjemldilnaggaaDoor
