/- tree.all, blank, formed, walked; and how the nodes one behind the other tell whether a node is as P5.1 says. -/
import Derived.Test.YtddbheoncbphhaaTreeKinds
namespace Go.Proofs.Ytddbheoncbphhaa
set_option maxRecDepth 100000
open Go.RowKit
/-- the fields that are not of the kind -/
def blankN (k : Int) (s : BitVec 256) (lo hi n : Int) : Bool := (k == 1 || decide (s = 0)) && (k == 4 || lo == 0 && hi == 0) && (k == 5 || n == 0)
theorem elems_zero_iff (s : BitVec 256) : ((elems s).length : Int) = 0 ↔ s = 0 := by
  constructor
  · intro h
    have h2 : elems s = [] := List.length_eq_zero_iff.mp (by omega)
    apply BitVec.eq_of_getLsbD_eq
    intro c hc
    rw [elems_nil h2 c hc]; simp
  · rintro rfl
    decide +kernel
end Go.Proofs.Ytddbheoncbphhaa
