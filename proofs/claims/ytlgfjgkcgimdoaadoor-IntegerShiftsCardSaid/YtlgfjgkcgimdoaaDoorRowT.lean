/- The row's list: the tables of trailing noughts, and that of powers of ten. -/
import Derived.Test.YtlgfjgkcgimdoaaDoorCard
import Derived.Test.YtlgfjgkcgimdoaaDoorBuild
import Derived.Stop.LaidErr
namespace Go.Proofs.YtlgfjgkcgimdoaaDoor
open Go Go.RowKit Go.WideShapes Go.ChangeShapes Go.ChangeAt Go.Shelf

theorem gTabType : (Tryd.prog.globals[0]?).map (·.type) = some 103 := by kernel_rfl
theorem under_tab : Tryd.prog.underlying 103 = some (.array 32 5) := by kernel_rfl
theorem under_u8 : Tryd.prog.underlying 5 = some (.int .u8) := by kernel_rfl
theorem cells_u8 : Tryd.prog.cellsOf 5 = 1 := by kernel_rfl
theorem cells_tab : Tryd.prog.cellsOf 103 = 32 := by kernel_rfl
theorem gTab10Type : (Tryd.prog.globals[2]?).map (·.type) = some 127 := by kernel_rfl
theorem under_tab10 : Tryd.prog.underlying 127 = some (.array 20 32) := by kernel_rfl
theorem under_u64 : Tryd.prog.underlying 32 = some (.int .u64) := by kernel_rfl
theorem cells_u64 : Tryd.prog.cellsOf 32 = 1 := by kernel_rfl
theorem cells_tab10 : Tryd.prog.cellsOf 127 = 20 := by kernel_rfl

theorem laid_plain {W : World} (h : laidMetH Tryd.prog Rows.integerShiftsRow.laid W) : laidMet Tryd.prog Rows.integerShiftsRow.laid W := h
/-- What the row's list gives: the table of 'trailing noughts' stands. -/
theorem tab_laid {W : World} (h : laidMetH Tryd.prog Rows.integerShiftsRow.laid W) : Tab W := by
  have ht : Lib.TabIs Tryd.prog W "math/bits.deBruijn32tab" .u8 (Lib.deBruijn32tab.map fun n : Nat => (n : Int)) :=
    Lib.tabIs_of_head gTab gTabType under_tab under_u8 cells_u8 cells_tab (laid_plain h)
  intro j hj
  have := ht.cell gTab j (by simpa using hj)
  rw [this, List.getD_eq_getElem?_getD, List.getElem?_map, List.getD_eq_getElem?_getD, List.getElem?_eq_getElem hj]
  rfl
/-- .. and that of powers of ten. -/
theorem tab10_laid {W : World} (h : laidMetH Tryd.prog Rows.integerShiftsRow.laid W) : Tab10 W :=
  Lib.tabIs_of_head (rest := []) gTab10 gTab10Type under_tab10 under_u64 cells_u64 cells_tab10 (laidMet.tail (laidMet.tail (laid_plain h)))

/-- A world for the witness: the settled one, the tables holding what their initialisers lay. -/
def put32 : Obj → Obj
  | .cells _ t frozen => .cells (Lib.deBruijn32tab.map fun n : Nat => Value.int .u8 (n : Int)).toArray t frozen
  | o => o
def put64 : Obj → Obj
  | .cells _ t frozen => .cells (Lib.deBruijn64tab.map fun n : Nat => Value.int .u8 (n : Int)).toArray t frozen
  | o => o
def put10 : Obj → Obj
  | .cells _ t frozen => .cells (Lib.pow10Tab.map fun n : Int => Value.int .u64 n).toArray t frozen
  | o => o
noncomputable def laidWorld (os : Os) : World :=
  { World.holding Tryd.prog os ⟨#[], #[], []⟩ with heap := (((World.holding Tryd.prog os ⟨#[], #[], []⟩).heap.modify 0 put32).modify 4 put64).modify 2 put10 }
end Go.Proofs.YtlgfjgkcgimdoaaDoor
