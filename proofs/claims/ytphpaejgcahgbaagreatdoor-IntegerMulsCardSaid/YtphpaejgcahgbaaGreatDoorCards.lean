/-
  DERIVED. GIVEN WITH THE SEED: THE CARDS: each row of YtphpaejgcahgbaaGreatDoorRows.lean that lists a variable, with what it lists TIED to the program's text (the seventh form; the later family's looks); each row that meets fmt, with fmt's text TOLD by the authors' own Lean function (tested against real Go, not proved from fmt's source: count such statements apart). THE CARD IS WHAT COUNTS. Prove the row's statement (the work); the ties are given (YtphpaejgcahgbaaGreatDoorTie.lean); close each card by the builder's one call (the guide's Derived/Test/ToyasCard.lean, 'card_holds'). Laid BY PROGRAM, IN A SANDBOX (cutbox-door.mjs). By AI agents, Wed Nov 11 2026. No macro, syntax, notation, axiom, sorry.
-/
import Derived.Test.YtphpaejgcahgbaaGreatDoorRows
import GoSem.ClaimSeven
namespace Go.Proofs.YtphpaejgcahgbaaGreatDoor
namespace Rows

/-- THE TIED CARD OF 'girdlelaw03.IntegerAdds'. -/
def integerAddsCard : Claim7 := { stood := { row := integerAddsRow, standIns := [], harness := (true, "77366c177e071104960ed47c3256a0b59286edeb9d1f01dcf63e94dc67fe3c91"), looks := false }, kinds := [], alts := [], laidByText := true, laidKinds := [.data, .data, .data], laidTests := true, laidLooks := .later }
def IntegerAddsCardSaid : Prop := Claim7.holds Tryz.pinned (.plain (OpenSpec.ofChange integerAddsSpec)) integerAddsCard

/-- THE TIED CARD OF 'girdlelaw03.IntegerMuls'. -/
def integerMulsCard : Claim7 := { stood := { row := integerMulsRow, standIns := [], harness := (true, "77366c177e071104960ed47c3256a0b59286edeb9d1f01dcf63e94dc67fe3c91"), looks := false }, kinds := [], alts := [], laidByText := true, laidKinds := [.data, .data, .data], laidTests := true, laidLooks := .later }
def IntegerMulsCardSaid : Prop := Claim7.holds Tryz.pinned (.plain (OpenSpec.ofChange integerMulsSpec)) integerMulsCard

/-- THE TIED CARD OF 'girdlelaw04.RatioPoints'. -/
def ratioPointsCard : Claim7 := { stood := { row := ratioPointsRow, standIns := [], harness := (true, "77366c177e071104960ed47c3256a0b59286edeb9d1f01dcf63e94dc67fe3c91"), looks := false }, kinds := [], alts := [], laidByText := true, laidKinds := [.data, .data, .data], laidTests := true, laidLooks := .later }
def RatioPointsCardSaid : Prop := Claim7.holds Tryz.pinned (.plain (OpenSpec.ofChange ratioPointsSpec)) ratioPointsCard

/-- THE TIED CARD OF 'girdletop.WholeSums'. -/
def wholeSumsCard : Claim7 := { stood := { row := wholeSumsRow, standIns := [], harness := (true, "77366c177e071104960ed47c3256a0b59286edeb9d1f01dcf63e94dc67fe3c91"), looks := false }, kinds := [], alts := [], laidByText := true, laidKinds := [.data, .data, .data], laidTests := true, laidLooks := .later }
def WholeSumsCardSaid : Prop := Claim7.holds Tryz.pinned (.plain (OpenSpec.ofChange wholeSumsSpec)) wholeSumsCard

/-- THE TIED CARD OF 'girdlelaw05.DyadRings'. -/
def dyadRingsCard : Claim7 := { stood := { row := dyadRingsRow, standIns := [], harness := (true, "77366c177e071104960ed47c3256a0b59286edeb9d1f01dcf63e94dc67fe3c91"), looks := false }, kinds := [], alts := [], laidByText := true, laidKinds := [.data, .data, .data], laidTests := true, laidLooks := .later }
def DyadRingsCardSaid : Prop := Claim7.holds Tryz.pinned (.plain (OpenSpec.ofChange dyadRingsSpec)) dyadRingsCard

/-- THE TIED CARD OF 'girdlelaw05.DyadMakes'. -/
def dyadMakesCard : Claim7 := { stood := { row := dyadMakesRow, standIns := [], harness := (true, "77366c177e071104960ed47c3256a0b59286edeb9d1f01dcf63e94dc67fe3c91"), looks := false }, kinds := [], alts := [], laidByText := true, laidKinds := [.data, .data, .data], laidTests := true, laidLooks := .later }
def DyadMakesCardSaid : Prop := Claim7.holds Tryz.pinned (.plain (OpenSpec.ofChange dyadMakesSpec)) dyadMakesCard

/-- THE TIED CARD OF 'girdlelaw05.DyadOrders'. -/
def dyadOrdersCard : Claim7 := { stood := { row := dyadOrdersRow, standIns := [], harness := (true, "77366c177e071104960ed47c3256a0b59286edeb9d1f01dcf63e94dc67fe3c91"), looks := false }, kinds := [], alts := [], laidByText := true, laidKinds := [.data, .data, .data], laidTests := true, laidLooks := .later }
def DyadOrdersCardSaid : Prop := Claim7.holds Tryz.pinned (.plain (OpenSpec.ofChange dyadOrdersSpec)) dyadOrdersCard

/-- THE TIED CARD OF 'girdlelaw05.DyadRounds'. -/
def dyadRoundsCard : Claim7 := { stood := { row := dyadRoundsRow, standIns := [], harness := (true, "77366c177e071104960ed47c3256a0b59286edeb9d1f01dcf63e94dc67fe3c91"), looks := false }, kinds := [], alts := [], laidByText := true, laidKinds := [.data, .data, .data], laidTests := true, laidLooks := .later }
def DyadRoundsCardSaid : Prop := Claim7.holds Tryz.pinned (.plain (OpenSpec.ofChange dyadRoundsSpec)) dyadRoundsCard

/-- THE TIED CARD OF 'girdlelaw05.DyadNear'. -/
def dyadNearCard : Claim7 := { stood := { row := dyadNearRow, standIns := [], harness := (true, "77366c177e071104960ed47c3256a0b59286edeb9d1f01dcf63e94dc67fe3c91"), looks := false }, kinds := [], alts := [], laidByText := true, laidKinds := [.data, .data, .data], laidTests := true, laidLooks := .later }
def DyadNearCardSaid : Prop := Claim7.holds Tryz.pinned (.plain (OpenSpec.ofChange dyadNearSpec)) dyadNearCard

/-- THE TIED CARD OF 'girdlelaw05.DyadHalves'. -/
def dyadHalvesCard : Claim7 := { stood := { row := dyadHalvesRow, standIns := [], harness := (true, "77366c177e071104960ed47c3256a0b59286edeb9d1f01dcf63e94dc67fe3c91"), looks := false }, kinds := [], alts := [], laidByText := true, laidKinds := [.data, .data, .data], laidTests := true, laidLooks := .later }
def DyadHalvesCardSaid : Prop := Claim7.holds Tryz.pinned (.plain (OpenSpec.ofChange dyadHalvesSpec)) dyadHalvesCard

/-- THE TIED CARD OF 'girdlelaw06.SpanNear'. -/
def spanNearCard : Claim7 := { stood := { row := spanNearRow, standIns := [], harness := (true, "77366c177e071104960ed47c3256a0b59286edeb9d1f01dcf63e94dc67fe3c91"), looks := false }, kinds := [], alts := [], laidByText := true, laidKinds := [.data, .data, .data], laidTests := true, laidLooks := .later }
def SpanNearCardSaid : Prop := Claim7.holds Tryz.pinned (.plain (OpenSpec.ofChange spanNearSpec)) spanNearCard

/-- THE SECOND FORM's CARD OF 'girdlelaw03.IntegerAdds'. -/
def integerAddsUptoCard : Claim7 := { stood := { row := integerAddsUptoRow, standIns := [], harness := (true, "77366c177e071104960ed47c3256a0b59286edeb9d1f01dcf63e94dc67fe3c91"), looks := false }, kinds := [], alts := [], laidByText := true, laidKinds := [.data, .data, .data], laidTests := true, laidLooks := .later }
def IntegerAddsUptoCardSaid : Prop := Claim7.holds Tryz.pinned (.plain (OpenSpec.upto integerAddsSpec)) integerAddsUptoCard

/-- THE SECOND FORM's CARD OF 'girdlelaw03.IntegerMuls'. -/
def integerMulsUptoCard : Claim7 := { stood := { row := integerMulsUptoRow, standIns := [], harness := (true, "77366c177e071104960ed47c3256a0b59286edeb9d1f01dcf63e94dc67fe3c91"), looks := false }, kinds := [], alts := [], laidByText := true, laidKinds := [.data, .data, .data], laidTests := true, laidLooks := .later }
def IntegerMulsUptoCardSaid : Prop := Claim7.holds Tryz.pinned (.plain (OpenSpec.upto integerMulsSpec)) integerMulsUptoCard

/-- THE SECOND FORM's CARD OF 'girdlelaw04.RatioPoints'. -/
def ratioPointsUptoCard : Claim7 := { stood := { row := ratioPointsUptoRow, standIns := [], harness := (true, "77366c177e071104960ed47c3256a0b59286edeb9d1f01dcf63e94dc67fe3c91"), looks := false }, kinds := [], alts := [], laidByText := true, laidKinds := [.data, .data, .data], laidTests := true, laidLooks := .later }
def RatioPointsUptoCardSaid : Prop := Claim7.holds Tryz.pinned (.plain (OpenSpec.upto ratioPointsSpec)) ratioPointsUptoCard

/-- THE SECOND FORM's CARD OF 'girdletop.WholeSums'. -/
def wholeSumsUptoCard : Claim7 := { stood := { row := wholeSumsUptoRow, standIns := [], harness := (true, "77366c177e071104960ed47c3256a0b59286edeb9d1f01dcf63e94dc67fe3c91"), looks := false }, kinds := [], alts := [], laidByText := true, laidKinds := [.data, .data, .data], laidTests := true, laidLooks := .later }
def WholeSumsUptoCardSaid : Prop := Claim7.holds Tryz.pinned (.plain (OpenSpec.upto wholeSumsSpec)) wholeSumsUptoCard

/-- THE SECOND FORM's CARD OF 'girdlelaw05.DyadRings'. -/
def dyadRingsUptoCard : Claim7 := { stood := { row := dyadRingsUptoRow, standIns := [], harness := (true, "77366c177e071104960ed47c3256a0b59286edeb9d1f01dcf63e94dc67fe3c91"), looks := false }, kinds := [], alts := [], laidByText := true, laidKinds := [.data, .data, .data], laidTests := true, laidLooks := .later }
def DyadRingsUptoCardSaid : Prop := Claim7.holds Tryz.pinned (.plain (OpenSpec.upto dyadRingsSpec)) dyadRingsUptoCard

/-- THE SECOND FORM's CARD OF 'girdlelaw05.DyadMakes'. -/
def dyadMakesUptoCard : Claim7 := { stood := { row := dyadMakesUptoRow, standIns := [], harness := (true, "77366c177e071104960ed47c3256a0b59286edeb9d1f01dcf63e94dc67fe3c91"), looks := false }, kinds := [], alts := [], laidByText := true, laidKinds := [.data, .data, .data], laidTests := true, laidLooks := .later }
def DyadMakesUptoCardSaid : Prop := Claim7.holds Tryz.pinned (.plain (OpenSpec.upto dyadMakesSpec)) dyadMakesUptoCard

/-- THE SECOND FORM's CARD OF 'girdlelaw05.DyadOrders'. -/
def dyadOrdersUptoCard : Claim7 := { stood := { row := dyadOrdersUptoRow, standIns := [], harness := (true, "77366c177e071104960ed47c3256a0b59286edeb9d1f01dcf63e94dc67fe3c91"), looks := false }, kinds := [], alts := [], laidByText := true, laidKinds := [.data, .data, .data], laidTests := true, laidLooks := .later }
def DyadOrdersUptoCardSaid : Prop := Claim7.holds Tryz.pinned (.plain (OpenSpec.upto dyadOrdersSpec)) dyadOrdersUptoCard

/-- THE SECOND FORM's CARD OF 'girdlelaw05.DyadRounds'. -/
def dyadRoundsUptoCard : Claim7 := { stood := { row := dyadRoundsUptoRow, standIns := [], harness := (true, "77366c177e071104960ed47c3256a0b59286edeb9d1f01dcf63e94dc67fe3c91"), looks := false }, kinds := [], alts := [], laidByText := true, laidKinds := [.data, .data, .data], laidTests := true, laidLooks := .later }
def DyadRoundsUptoCardSaid : Prop := Claim7.holds Tryz.pinned (.plain (OpenSpec.upto dyadRoundsSpec)) dyadRoundsUptoCard

/-- THE SECOND FORM's CARD OF 'girdlelaw05.DyadNear'. -/
def dyadNearUptoCard : Claim7 := { stood := { row := dyadNearUptoRow, standIns := [], harness := (true, "77366c177e071104960ed47c3256a0b59286edeb9d1f01dcf63e94dc67fe3c91"), looks := false }, kinds := [], alts := [], laidByText := true, laidKinds := [.data, .data, .data], laidTests := true, laidLooks := .later }
def DyadNearUptoCardSaid : Prop := Claim7.holds Tryz.pinned (.plain (OpenSpec.upto dyadNearSpec)) dyadNearUptoCard

/-- THE SECOND FORM's CARD OF 'girdlelaw05.DyadHalves'. -/
def dyadHalvesUptoCard : Claim7 := { stood := { row := dyadHalvesUptoRow, standIns := [], harness := (true, "77366c177e071104960ed47c3256a0b59286edeb9d1f01dcf63e94dc67fe3c91"), looks := false }, kinds := [], alts := [], laidByText := true, laidKinds := [.data, .data, .data], laidTests := true, laidLooks := .later }
def DyadHalvesUptoCardSaid : Prop := Claim7.holds Tryz.pinned (.plain (OpenSpec.upto dyadHalvesSpec)) dyadHalvesUptoCard

/-- THE SECOND FORM's CARD OF 'girdlelaw06.SpanNear'. -/
def spanNearUptoCard : Claim7 := { stood := { row := spanNearUptoRow, standIns := [], harness := (true, "77366c177e071104960ed47c3256a0b59286edeb9d1f01dcf63e94dc67fe3c91"), looks := false }, kinds := [], alts := [], laidByText := true, laidKinds := [.data, .data, .data], laidTests := true, laidLooks := .later }
def SpanNearUptoCardSaid : Prop := Claim7.holds Tryz.pinned (.plain (OpenSpec.upto spanNearSpec)) spanNearUptoCard
end Rows
end Go.Proofs.YtphpaejgcahgbaaGreatDoor
