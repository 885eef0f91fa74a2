/-
  DERIVED. GIVEN WITH THE SEED: THE CARDS: each row of YtlgfjgkcgimdoaaDoorRows.lean that lists a variable, with what it lists TIED to the program's text (the seventh form; the later family's looks); each row that meets fmt, with fmt's text TOLD by the authors' own Lean function (tested against real Go, not proved from fmt's source: count such statements apart). THE CARD IS WHAT COUNTS. Prove the row's statement (the work); the ties are given (YtlgfjgkcgimdoaaDoorTie.lean); close each card by the builder's one call (the guide's Derived/Test/ToyasCard.lean, 'card_holds'). Laid BY PROGRAM, IN A SANDBOX (cutbox-door.mjs). By AI agents, Wed Nov 11 2026. No macro, syntax, notation, axiom, sorry.
-/
import Derived.Test.YtlgfjgkcgimdoaaDoorRows
import GoSem.ClaimSeven
namespace Go.Proofs.YtlgfjgkcgimdoaaDoor
namespace Rows

/-- THE TIED CARD OF 'girdlelaw03.IntegerShifts'. -/
def integerShiftsCard : Claim7 := { stood := { row := integerShiftsRow, standIns := [], harness := (true, "05060ebab3b2fcc349e1ccce515c4305e14435cfa72e5f6bb68f4f78776cec98"), looks := false }, kinds := [], alts := [], laidByText := true, laidKinds := [.data, .data, .data], laidTests := true, laidLooks := .later }
def IntegerShiftsCardSaid : Prop := Claim7.holds Tryd.pinned (.plain (OpenSpec.ofChange integerShiftsSpec)) integerShiftsCard

/-- THE TIED CARD OF 'girdlelaw03.IntegerTexts'. -/
def integerTextsCard : Claim7 := { stood := { row := integerTextsRow, standIns := [], harness := (true, "05060ebab3b2fcc349e1ccce515c4305e14435cfa72e5f6bb68f4f78776cec98"), looks := false }, kinds := [], alts := [], laidByText := true, laidKinds := [.data, .data, .data], laidTests := true, laidLooks := .later }
def IntegerTextsCardSaid : Prop := Claim7.holds Tryd.pinned (.plain (OpenSpec.ofChange integerTextsSpec)) integerTextsCard

/-- THE SECOND FORM's CARD OF 'girdlelaw03.IntegerShifts'. -/
def integerShiftsUptoCard : Claim7 := { stood := { row := integerShiftsUptoRow, standIns := [], harness := (true, "05060ebab3b2fcc349e1ccce515c4305e14435cfa72e5f6bb68f4f78776cec98"), looks := false }, kinds := [], alts := [], laidByText := true, laidKinds := [.data, .data, .data], laidTests := true, laidLooks := .later }
def IntegerShiftsUptoCardSaid : Prop := Claim7.holds Tryd.pinned (.plain (OpenSpec.upto integerShiftsSpec)) integerShiftsUptoCard

/-- THE SECOND FORM's CARD OF 'girdlelaw03.IntegerTexts'. -/
def integerTextsUptoCard : Claim7 := { stood := { row := integerTextsUptoRow, standIns := [], harness := (true, "05060ebab3b2fcc349e1ccce515c4305e14435cfa72e5f6bb68f4f78776cec98"), looks := false }, kinds := [], alts := [], laidByText := true, laidKinds := [.data, .data, .data], laidTests := true, laidLooks := .later }
def IntegerTextsUptoCardSaid : Prop := Claim7.holds Tryd.pinned (.plain (OpenSpec.upto integerTextsSpec)) integerTextsUptoCard
end Rows
end Go.Proofs.YtlgfjgkcgimdoaaDoor
