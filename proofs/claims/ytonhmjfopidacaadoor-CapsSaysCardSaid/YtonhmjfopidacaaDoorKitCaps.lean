/- What the closing parts of laws that list three of the library's tables, and lean on the powers of ten alone, want: that table in its variable; a world in which all lie. -/
import Derived.Test.YtonhmjfopidacaaDoorKit
import Derived.Test.YtonhmjfopidacaaDoorCards
import Derived.Test.YtonhmjfopidacaaDoorTie
import Derived.Test.YtonhmjfopidacaaDoorCapsWA
import Derived.Stop.LaidErr
namespace Go.Proofs.YtonhmjfopidacaaDoor
set_option maxRecDepth 100000
open Go.ChangeShapes Go.WideShapes Go.ChangeAt Go.RowKit
theorem gPow : Tryd.prog.globalNamed "internal/strconv.uint64pow10" = some 0 := by kernel_rfl
theorem gPowType : (Tryd.prog.globals[0]?).map (·.type) = some 143 := by kernel_rfl
theorem cellsPow : Tryd.prog.cellsOf 143 = 20 := by kernel_rfl
theorem cellsPowOne : Tryd.prog.cellsOf 23 = 1 := by kernel_rfl
def threeTabs {H : Type} : List (String × DataW H) := [("math/bits.deBruijn32tab", Rows.laid_math_bits_deBruijn32tab), ("math/bits.deBruijn64tab", Rows.laid_math_bits_deBruijn64tab), ("internal/strconv.uint64pow10", Rows.laid_internal_strconv_uint64pow10)]
theorem pow_of_three {W : World} (h : laidMetH Tryd.prog threeTabs W) : PowAt W := by
  have h2 := laidMet.tail h
  have h3 := laidMet.tail h2
  have hd : (Rows.laid_internal_strconv_uint64pow10 : DataW Unit) = Lib.tabData .u64 Lib.pow10Tab := by kernel_rfl
  rw [hd] at h3
  exact Lib.tabIs_of_head gPow gPowType Tryd.underlying143 Tryd.underlying23 cellsPowOne cellsPow h3
/-- a variable's cells, laid -/
def layInts (k : IntKind) (l : List Int) : Obj → Obj
  | .cells _ t frozen => .cells (l.map fun n => Value.int k n).toArray t frozen
  | o => o
/-- a world in which the tables lie as their initialisers lay them -/
noncomputable def laidThree (os : Os) : World :=
  { World.holding Tryd.prog os ⟨#[], #[], []⟩ with
    heap := (((World.holding Tryd.prog os ⟨#[], #[], []⟩).heap.modify 2 (layInts .u8 (Lib.deBruijn64tab.map Int.ofNat))).modify 0 (layInts .u64 Lib.pow10Tab)).modify 1
      (layInts .u8 [0, 1, 28, 2, 29, 14, 24, 3, 30, 22, 20, 15, 25, 17, 4, 8, 31, 27, 13, 23, 21, 19, 16, 7, 26, 12, 18, 6, 11, 5, 10, 9]) }
end Go.Proofs.YtonhmjfopidacaaDoor
