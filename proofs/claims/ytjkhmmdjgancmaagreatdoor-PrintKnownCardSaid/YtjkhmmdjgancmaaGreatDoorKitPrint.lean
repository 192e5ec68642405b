/- What the closing parts of laws that list three of the library's tables want: the tables in their variables; a world in which they lie. -/
import Derived.Test.YtjkhmmdjgancmaaGreatDoorKit
import Derived.Test.YtjkhmmdjgancmaaGreatDoorPrintWhole
import Derived.Stop.LaidErr
namespace Go.Proofs.YtjkhmmdjgancmaaGreatDoor
set_option maxRecDepth 100000
open Go.ChangeShapes Go.WideShapes Go.ChangeAt Go.RowKit
theorem gPow : Tryz.prog.globalNamed "internal/strconv.uint64pow10" = some 2 := by kernel_rfl
theorem gPowType : (Tryz.prog.globals[2]?).map (·.type) = some 131 := by kernel_rfl
theorem cellsPow : Tryz.prog.cellsOf 131 = 20 := by kernel_rfl
def threeTabs {H : Type} : List (String × DataW H) := [("math/bits.deBruijn32tab", Rows.laid_math_bits_deBruijn32tab), ("math/bits.deBruijn64tab", Rows.laid_math_bits_deBruijn64tab), ("internal/strconv.uint64pow10", Rows.laid_internal_strconv_uint64pow10)]
theorem tabs_of_laid {W : World} (h : laidMetH Tryz.prog threeTabs W) : TabAt 0 Lib.deBruijn64tab W ∧ PowAt W := by
  have h2 := laidMet.tail h
  have h3 := laidMet.tail h2
  refine ⟨?_, ?_⟩
  · have ht : Lib.TabIs Tryz.prog W "math/bits.deBruijn64tab" .u8 (Lib.deBruijn64tab.map Int.ofNat) :=
      Lib.tabIs_of_head gTab gTabType Tryz.underlying109 Tryz.underlying5 cellsU8 cellsTab h2
    intro j hj
    have := ht.cell gTab j (by simpa using hj)
    rw [this, List.getD_eq_getElem?_getD, List.getD_eq_getElem?_getD, List.getElem?_map, List.getElem?_eq_getElem hj]
    rfl
  · have hd : (Rows.laid_internal_strconv_uint64pow10 : DataW Unit) = Lib.tabData .u64 Lib.pow10Tab := by kernel_rfl
    rw [hd] at h3
    exact Lib.tabIs_of_head gPow gPowType Tryz.underlying131 Tryz.underlying23 cellsU64 cellsPow h3
/-- a variable's cells, laid -/
def layInts (k : IntKind) (l : List Int) : Obj → Obj
  | .cells _ t frozen => .cells (l.map fun n => Value.int k n).toArray t frozen
  | o => o
/-- a world in which the tables lie as their initialisers lay them -/
noncomputable def laidThree (os : Os) : World :=
  { World.holding Tryz.prog os ⟨#[], #[], []⟩ with
    heap := (((World.holding Tryz.prog os ⟨#[], #[], []⟩).heap.modify 0 (layInts .u8 (Lib.deBruijn64tab.map Int.ofNat))).modify 2 (layInts .u64 Lib.pow10Tab)).modify 3
      (layInts .u8 [0, 1, 28, 2, 29, 14, 24, 3, 30, 22, 20, 15, 25, 17, 4, 8, 31, 27, 13, 23, 21, 19, 16, 7, 26, 12, 18, 6, 11, 5, 10, 9]) }
end Go.Proofs.YtjkhmmdjgancmaaGreatDoor
