/- What the closing parts of laws that list three of the library's tables, and lean on the first alone, want: that table in its variable; a world in which all lie. -/
import Derived.Test.YtlgpbgcheeaalaaGreatDoorKit
import Derived.Stop.LaidErr
import Derived.Lib.ItoaNum
namespace Go.Proofs.YtlgpbgcheeaalaaGreatDoor
set_option maxRecDepth 100000
open Go.ChangeShapes Go.WideShapes Go.ChangeAt Go.RowKit
def threeTabs {H : Type} : List (String × DataW H) := [("math/bits.deBruijn32tab", Rows.laid_math_bits_deBruijn32tab), ("math/bits.deBruijn64tab", Rows.laid_math_bits_deBruijn64tab), ("internal/strconv.uint64pow10", Rows.laid_internal_strconv_uint64pow10)]
theorem tab_of_three {W : World} (h : laidMetH Tryz.prog threeTabs W) : TabAt 0 Lib.deBruijn64tab W := by
  have h2 := laidMet.tail h
  have ht : Lib.TabIs Tryz.prog W "math/bits.deBruijn64tab" .u8 (Lib.deBruijn64tab.map Int.ofNat) :=
    Lib.tabIs_of_head gTab gTabType Tryz.underlying180 Tryz.underlying5 cellsU8 cellsTab h2
  intro j hj
  have := ht.cell gTab j (by simpa using hj)
  rw [this, List.getD_eq_getElem?_getD, List.getD_eq_getElem?_getD, List.getElem?_map, List.getElem?_eq_getElem hj]
  rfl
/-- a variable's cells, laid -/
def layInts (k : IntKind) (l : List Int) : Obj → Obj
  | .cells _ t frozen => .cells (l.map fun n => Value.int k n).toArray t frozen
  | o => o
/-- a world in which the tables lie as their initialisers lay them -/
noncomputable def laidThree (os : Os) : World :=
  { World.holding Tryz.prog os ⟨#[], #[], []⟩ with
    heap := (((World.holding Tryz.prog os ⟨#[], #[], []⟩).heap.modify 0 (layInts .u8 (Lib.deBruijn64tab.map Int.ofNat))).modify 1 (layInts .u64 Lib.pow10Tab)).modify 3
      (layInts .u8 [0, 1, 28, 2, 29, 14, 24, 3, 30, 22, 20, 15, 25, 17, 4, 8, 31, 27, 13, 23, 21, 19, 16, 7, 26, 12, 18, 6, 11, 5, 10, 9]) }
end Go.Proofs.YtlgpbgcheeaalaaGreatDoor
