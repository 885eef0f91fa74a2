/- RatioParses: whatever comes in. -/
import Derived.Test.YtlgfjgkcgimdoaaGreatDoorCardR
import Derived.Test.YtlgfjgkcgimdoaaGreatDoorRatParses
namespace Go.Proofs.YtlgfjgkcgimdoaaGreatDoor
open Go Go.RowKit Go.Shelf AM
theorem ratioParses_law (w : World) (hG : Glob w) (s : ByteArray) : Calls Tryz.prog 11 #[.string s] w fun e w' => e = .returned (.bool true) ∧ Below w.heap.size w w' :=
  law_in (RatioParses_any s) hG ⟨rfl, trivial⟩
end Go.Proofs.YtlgfjgkcgimdoaaGreatDoor
