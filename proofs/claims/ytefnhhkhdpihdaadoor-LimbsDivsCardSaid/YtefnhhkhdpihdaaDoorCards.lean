/-
  DERIVED. GIVEN WITH THE SEED: THE CARDS: each row of YtefnhhkhdpihdaaDoorRows.lean that lists a variable, with what it lists TIED to the program's text (the seventh form; the later family's looks); each row that meets fmt, with fmt's text TOLD by the authors' own Lean function (tested against real Go, not proved from fmt's source: count such statements apart). THE CARD IS WHAT COUNTS. Prove the row's statement (the work); the ties are given (YtefnhhkhdpihdaaDoorTie.lean); close each card by the builder's one call (the guide's Derived/Test/ToyasCard.lean, 'card_holds'). Laid BY PROGRAM, IN A SANDBOX (cutbox-door.mjs). By AI agents, Wed Nov 11 2026. No macro, syntax, notation, axiom, sorry.
-/
import Derived.Test.YtefnhhkhdpihdaaDoorRows
import GoSem.ClaimSeven
namespace Go.Proofs.YtefnhhkhdpihdaaDoor
namespace Rows

/-- THE TIED CARD OF 'girdlelaw01.LimbsAdds'. -/
def limbsAddsCard : Claim7 := { stood := { row := limbsAddsRow, standIns := [], harness := (true, "8ea7ea176089ecd40990b67f396b63f89bf14fbec87909e3b4a375b4ef4ac247"), looks := false }, kinds := [], alts := [], laidByText := true, laidKinds := [.data], laidTests := true, laidLooks := .later }
def LimbsAddsCardSaid : Prop := Claim7.holds Tryd.pinned (.plain (OpenSpec.ofChange limbsAddsSpec)) limbsAddsCard

/-- THE TIED CARD OF 'girdlelaw01.LimbsMuls'. -/
def limbsMulsCard : Claim7 := { stood := { row := limbsMulsRow, standIns := [], harness := (true, "8ea7ea176089ecd40990b67f396b63f89bf14fbec87909e3b4a375b4ef4ac247"), looks := false }, kinds := [], alts := [], laidByText := true, laidKinds := [.data], laidTests := true, laidLooks := .later }
def LimbsMulsCardSaid : Prop := Claim7.holds Tryd.pinned (.plain (OpenSpec.ofChange limbsMulsSpec)) limbsMulsCard

/-- THE TIED CARD OF 'girdlelaw01.LimbsDivs'. -/
def limbsDivsCard : Claim7 := { stood := { row := limbsDivsRow, standIns := [], harness := (true, "8ea7ea176089ecd40990b67f396b63f89bf14fbec87909e3b4a375b4ef4ac247"), looks := false }, kinds := [], alts := [], laidByText := true, laidKinds := [.data], laidTests := true, laidLooks := .later }
def LimbsDivsCardSaid : Prop := Claim7.holds Tryd.pinned (.plain (OpenSpec.ofChange limbsDivsSpec)) limbsDivsCard

/-- THE TIED CARD OF 'girdlelaw01.LimbsShifts'. -/
def limbsShiftsCard : Claim7 := { stood := { row := limbsShiftsRow, standIns := [], harness := (true, "8ea7ea176089ecd40990b67f396b63f89bf14fbec87909e3b4a375b4ef4ac247"), looks := false }, kinds := [], alts := [], laidByText := true, laidKinds := [.data], laidTests := true, laidLooks := .later }
def LimbsShiftsCardSaid : Prop := Claim7.holds Tryd.pinned (.plain (OpenSpec.ofChange limbsShiftsSpec)) limbsShiftsCard

/-- THE TIED CARD OF 'girdlelaw01.LimbsOrders'. -/
def limbsOrdersCard : Claim7 := { stood := { row := limbsOrdersRow, standIns := [], harness := (true, "8ea7ea176089ecd40990b67f396b63f89bf14fbec87909e3b4a375b4ef4ac247"), looks := false }, kinds := [], alts := [], laidByText := true, laidKinds := [.data], laidTests := true, laidLooks := .later }
def LimbsOrdersCardSaid : Prop := Claim7.holds Tryd.pinned (.plain (OpenSpec.ofChange limbsOrdersSpec)) limbsOrdersCard

/-- THE TIED CARD OF 'girdlelaw01.LimbsBounds'. -/
def limbsBoundsCard : Claim7 := { stood := { row := limbsBoundsRow, standIns := [], harness := (true, "8ea7ea176089ecd40990b67f396b63f89bf14fbec87909e3b4a375b4ef4ac247"), looks := false }, kinds := [], alts := [], laidByText := true, laidKinds := [.data], laidTests := true, laidLooks := .later }
def LimbsBoundsCardSaid : Prop := Claim7.holds Tryd.pinned (.plain (OpenSpec.ofChange limbsBoundsSpec)) limbsBoundsCard

/-- THE TIED CARD OF 'girdlelaw03.IntegerDivs'. -/
def integerDivsCard : Claim7 := { stood := { row := integerDivsRow, standIns := [], harness := (true, "8ea7ea176089ecd40990b67f396b63f89bf14fbec87909e3b4a375b4ef4ac247"), looks := false }, kinds := [], alts := [], laidByText := true, laidKinds := [.data, .data, .data], laidTests := true, laidLooks := .later }
def IntegerDivsCardSaid : Prop := Claim7.holds Tryd.pinned (.plain (OpenSpec.ofChange integerDivsSpec)) integerDivsCard

/-- THE TIED CARD OF 'girdlelaw03.IntegerShifts'. -/
def integerShiftsCard : Claim7 := { stood := { row := integerShiftsRow, standIns := [], harness := (true, "8ea7ea176089ecd40990b67f396b63f89bf14fbec87909e3b4a375b4ef4ac247"), looks := false }, kinds := [], alts := [], laidByText := true, laidKinds := [.data, .data, .data], laidTests := true, laidLooks := .later }
def IntegerShiftsCardSaid : Prop := Claim7.holds Tryd.pinned (.plain (OpenSpec.ofChange integerShiftsSpec)) integerShiftsCard

/-- THE TIED CARD OF 'girdlelaw03.IntegerOrders'. -/
def integerOrdersCard : Claim7 := { stood := { row := integerOrdersRow, standIns := [], harness := (true, "8ea7ea176089ecd40990b67f396b63f89bf14fbec87909e3b4a375b4ef4ac247"), looks := false }, kinds := [], alts := [], laidByText := true, laidKinds := [.data, .data, .data], laidTests := true, laidLooks := .later }
def IntegerOrdersCardSaid : Prop := Claim7.holds Tryd.pinned (.plain (OpenSpec.ofChange integerOrdersSpec)) integerOrdersCard

/-- THE TIED CARD OF 'girdlelaw03.IntegerTexts'. -/
def integerTextsCard : Claim7 := { stood := { row := integerTextsRow, standIns := [], harness := (true, "8ea7ea176089ecd40990b67f396b63f89bf14fbec87909e3b4a375b4ef4ac247"), looks := false }, kinds := [], alts := [], laidByText := true, laidKinds := [.data, .data, .data], laidTests := true, laidLooks := .later }
def IntegerTextsCardSaid : Prop := Claim7.holds Tryd.pinned (.plain (OpenSpec.ofChange integerTextsSpec)) integerTextsCard

/-- THE SECOND FORM's CARD OF 'girdlelaw01.LimbsAdds'. -/
def limbsAddsUptoCard : Claim7 := { stood := { row := limbsAddsUptoRow, standIns := [], harness := (true, "8ea7ea176089ecd40990b67f396b63f89bf14fbec87909e3b4a375b4ef4ac247"), looks := false }, kinds := [], alts := [], laidByText := true, laidKinds := [.data], laidTests := true, laidLooks := .later }
def LimbsAddsUptoCardSaid : Prop := Claim7.holds Tryd.pinned (.plain (OpenSpec.upto limbsAddsSpec)) limbsAddsUptoCard

/-- THE SECOND FORM's CARD OF 'girdlelaw01.LimbsMuls'. -/
def limbsMulsUptoCard : Claim7 := { stood := { row := limbsMulsUptoRow, standIns := [], harness := (true, "8ea7ea176089ecd40990b67f396b63f89bf14fbec87909e3b4a375b4ef4ac247"), looks := false }, kinds := [], alts := [], laidByText := true, laidKinds := [.data], laidTests := true, laidLooks := .later }
def LimbsMulsUptoCardSaid : Prop := Claim7.holds Tryd.pinned (.plain (OpenSpec.upto limbsMulsSpec)) limbsMulsUptoCard

/-- THE SECOND FORM's CARD OF 'girdlelaw01.LimbsDivs'. -/
def limbsDivsUptoCard : Claim7 := { stood := { row := limbsDivsUptoRow, standIns := [], harness := (true, "8ea7ea176089ecd40990b67f396b63f89bf14fbec87909e3b4a375b4ef4ac247"), looks := false }, kinds := [], alts := [], laidByText := true, laidKinds := [.data], laidTests := true, laidLooks := .later }
def LimbsDivsUptoCardSaid : Prop := Claim7.holds Tryd.pinned (.plain (OpenSpec.upto limbsDivsSpec)) limbsDivsUptoCard

/-- THE SECOND FORM's CARD OF 'girdlelaw01.LimbsShifts'. -/
def limbsShiftsUptoCard : Claim7 := { stood := { row := limbsShiftsUptoRow, standIns := [], harness := (true, "8ea7ea176089ecd40990b67f396b63f89bf14fbec87909e3b4a375b4ef4ac247"), looks := false }, kinds := [], alts := [], laidByText := true, laidKinds := [.data], laidTests := true, laidLooks := .later }
def LimbsShiftsUptoCardSaid : Prop := Claim7.holds Tryd.pinned (.plain (OpenSpec.upto limbsShiftsSpec)) limbsShiftsUptoCard

/-- THE SECOND FORM's CARD OF 'girdlelaw01.LimbsOrders'. -/
def limbsOrdersUptoCard : Claim7 := { stood := { row := limbsOrdersUptoRow, standIns := [], harness := (true, "8ea7ea176089ecd40990b67f396b63f89bf14fbec87909e3b4a375b4ef4ac247"), looks := false }, kinds := [], alts := [], laidByText := true, laidKinds := [.data], laidTests := true, laidLooks := .later }
def LimbsOrdersUptoCardSaid : Prop := Claim7.holds Tryd.pinned (.plain (OpenSpec.upto limbsOrdersSpec)) limbsOrdersUptoCard

/-- THE SECOND FORM's CARD OF 'girdlelaw01.LimbsBounds'. -/
def limbsBoundsUptoCard : Claim7 := { stood := { row := limbsBoundsUptoRow, standIns := [], harness := (true, "8ea7ea176089ecd40990b67f396b63f89bf14fbec87909e3b4a375b4ef4ac247"), looks := false }, kinds := [], alts := [], laidByText := true, laidKinds := [.data], laidTests := true, laidLooks := .later }
def LimbsBoundsUptoCardSaid : Prop := Claim7.holds Tryd.pinned (.plain (OpenSpec.upto limbsBoundsSpec)) limbsBoundsUptoCard

/-- THE SECOND FORM's CARD OF 'girdlelaw03.IntegerDivs'. -/
def integerDivsUptoCard : Claim7 := { stood := { row := integerDivsUptoRow, standIns := [], harness := (true, "8ea7ea176089ecd40990b67f396b63f89bf14fbec87909e3b4a375b4ef4ac247"), looks := false }, kinds := [], alts := [], laidByText := true, laidKinds := [.data, .data, .data], laidTests := true, laidLooks := .later }
def IntegerDivsUptoCardSaid : Prop := Claim7.holds Tryd.pinned (.plain (OpenSpec.upto integerDivsSpec)) integerDivsUptoCard

/-- THE SECOND FORM's CARD OF 'girdlelaw03.IntegerShifts'. -/
def integerShiftsUptoCard : Claim7 := { stood := { row := integerShiftsUptoRow, standIns := [], harness := (true, "8ea7ea176089ecd40990b67f396b63f89bf14fbec87909e3b4a375b4ef4ac247"), looks := false }, kinds := [], alts := [], laidByText := true, laidKinds := [.data, .data, .data], laidTests := true, laidLooks := .later }
def IntegerShiftsUptoCardSaid : Prop := Claim7.holds Tryd.pinned (.plain (OpenSpec.upto integerShiftsSpec)) integerShiftsUptoCard

/-- THE SECOND FORM's CARD OF 'girdlelaw03.IntegerOrders'. -/
def integerOrdersUptoCard : Claim7 := { stood := { row := integerOrdersUptoRow, standIns := [], harness := (true, "8ea7ea176089ecd40990b67f396b63f89bf14fbec87909e3b4a375b4ef4ac247"), looks := false }, kinds := [], alts := [], laidByText := true, laidKinds := [.data, .data, .data], laidTests := true, laidLooks := .later }
def IntegerOrdersUptoCardSaid : Prop := Claim7.holds Tryd.pinned (.plain (OpenSpec.upto integerOrdersSpec)) integerOrdersUptoCard

/-- THE SECOND FORM's CARD OF 'girdlelaw03.IntegerTexts'. -/
def integerTextsUptoCard : Claim7 := { stood := { row := integerTextsUptoRow, standIns := [], harness := (true, "8ea7ea176089ecd40990b67f396b63f89bf14fbec87909e3b4a375b4ef4ac247"), looks := false }, kinds := [], alts := [], laidByText := true, laidKinds := [.data, .data, .data], laidTests := true, laidLooks := .later }
def IntegerTextsUptoCardSaid : Prop := Claim7.holds Tryd.pinned (.plain (OpenSpec.upto integerTextsSpec)) integerTextsUptoCard
end Rows
end Go.Proofs.YtefnhhkhdpihdaaDoor
