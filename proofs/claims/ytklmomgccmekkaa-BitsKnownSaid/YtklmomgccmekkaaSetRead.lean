/- The walks of TrailingZeros64, lowest, Len, Least. -/
import Derived.Test.YtklmomgccmekkaaSetList
import Derived.Test.YtklmomgccmekkaaSetOps
import Derived.Shelf.Spec.TrailingZeros
namespace Go.Proofs.Ytklmomgccmekkaa
set_option maxRecDepth 100000
open Go.RowKit

theorem ret_int {k : IntKind} {a b : Int} (h : a = b) : Ending.returned (.int k a) = .returned (.int k b) := by rw [h]
theorem ret_two {k : IntKind} {a b : Int} {c : Bool} (h : a = b) : Ending.returned (.tuple #[.int k a, .bool c]) = .returned (.tuple #[.int k b, .bool c]) := by rw [h]
theorem idx0 (x0 x1 x2 x3 : Value) (w : World) : (Instr.index 25 (.agg #[x0, x1, x2, x3]) (.int .i64 0)).run Try.prog w = .ok x0 w := by kernel_rfl
theorem idx1 (x0 x1 x2 x3 : Value) (w : World) : (Instr.index 25 (.agg #[x0, x1, x2, x3]) (.int .i64 1)).run Try.prog w = .ok x1 w := by kernel_rfl
theorem idx2 (x0 x1 x2 x3 : Value) (w : World) : (Instr.index 25 (.agg #[x0, x1, x2, x3]) (.int .i64 2)).run Try.prog w = .ok x2 w := by kernel_rfl
theorem idx3 (x0 x1 x2 x3 : Value) (w : World) : (Instr.index 25 (.agg #[x0, x1, x2, x3]) (.int .i64 3)).run Try.prog w = .ok x3 w := by kernel_rfl
set_option maxHeartbeats 1000000 in
theorem len_any (s : BitVec 256) (w : World) :
    Calls Try.prog 82 #[SV s] w fun e w' => e = .returned (.int .i64 (elems s).length) ∧ Below w.heap.size w w' := by
  have d0 := digs_le (word s 0)
  have d1 := digs_le (word s 1)
  have d2 := digs_le (word s 2)
  have d3 := digs_le (word s 3)
  have hl := Lib.hid (elems_length s)
  have i0 := idx0
  have i1 := idx1
  have i2 := idx2
  have i3 := idx3
  go_enter Try.func82, Try.ntmps82
  go_wp2
  refine wp_loop_rounds 5 ?_
  iterate 4 (rw [rounds_succ]; go_wp2_with (go_at_call 86; refine (ones_any _ (word_lt _ _) _).mono ?_; rintro e w' ⟨rfl, rfl⟩))
  rw [rounds_succ]
  go_wp2
  go_ret
  exact ⟨ret_int (by rw [hl.out]; omega), (Below.refl _ _).alloc (Nat.le_refl _) _⟩
end Go.Proofs.Ytklmomgccmekkaa
