/-
  DERIVED. GIVEN WITH THE SEED: THE CARDS: each row of YtnncfbmddpijcaaGreatDoorRows.lean that lists a variable, with what it lists TIED to the program's text (the seventh form; the later family's looks); each row that meets fmt, with fmt's text TOLD by the authors' own Lean function (tested against real Go, not proved from fmt's source: count such statements apart). THE CARD IS WHAT COUNTS. Prove the row's statement (the work); the ties are given (YtnncfbmddpijcaaGreatDoorTie.lean); close each card by the builder's one call (the guide's Derived/Test/ToyasCard.lean, 'card_holds'). Laid BY PROGRAM, IN A SANDBOX (cutbox-door.mjs). By AI agents, Wed Nov 11 2026. No macro, syntax, notation, axiom, sorry.
-/
import Derived.Test.YtnncfbmddpijcaaGreatDoorRows
import GoSem.ClaimSeven
namespace Go.Proofs.YtnncfbmddpijcaaGreatDoor
namespace Rows

/-- THE TIED CARD OF 'girdletop.WholeHeld'. -/
def wholeHeldCard : Claim7 := { stood := { row := wholeHeldRow, standIns := [], harness := (true, "a1b538ef448caf119f50fa11869c3853d51bdaef874178c37eb96bfaa08d4b8b"), looks := false }, kinds := [], alts := [], laidByText := true, laidKinds := [.data], laidTests := true, laidLooks := .later }
def WholeHeldCardSaid : Prop := Claim7.holds Tryz.pinned (.plain (OpenSpec.ofChange wholeHeldSpec)) wholeHeldCard

/-- THE SECOND FORM's CARD OF 'girdletop.WholeHeld'. -/
def wholeHeldUptoCard : Claim7 := { stood := { row := wholeHeldUptoRow, standIns := [], harness := (true, "a1b538ef448caf119f50fa11869c3853d51bdaef874178c37eb96bfaa08d4b8b"), looks := false }, kinds := [], alts := [], laidByText := true, laidKinds := [.data], laidTests := true, laidLooks := .later }
def WholeHeldUptoCardSaid : Prop := Claim7.holds Tryz.pinned (.plain (OpenSpec.upto wholeHeldSpec)) wholeHeldUptoCard
end Rows
end Go.Proofs.YtnncfbmddpijcaaGreatDoor
