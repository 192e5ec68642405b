/- The small functions of package tree: which kinds may stand where, the bounds, the depth. -/
import Derived.Test.YtddbheoncbphhaaTreeHeavy
import Derived.Test.YtddbheoncbphhaaEq
namespace Go.Proofs.Ytddbheoncbphhaa
set_option maxRecDepth 100000
open Go.RowKit
/-- the cells of a node -/
theorem at_cells {w : World} {x : Nd} {cs : List Value} (hat : Nd.at w x cs) : ∃ (s : BitVec 256) (lo hi n : Int) (a : Option Addr) (cap : Nat), x = .mk x.kind s lo hi n x.nodes ∧
    cs = [.int .i64 x.kind, .int .u64 (word s 0), .int .u64 (word s 1), .int .u64 (word s 2), .int .u64 (word s 3), .int .i64 lo, .int .i64 hi, .int .i64 n, .slice a x.nodes.length cap] := by
  cases x with
  | mk k s lo hi n l =>
    rw [at_mk] at hat
    obtain ⟨_, _, _, _, a, cap, hcs, _, _⟩ := hat
    exact ⟨s, lo, hi, n, a, cap, rfl, hcs⟩
def atomK (k : Int) : Bool := k == 1 || k == 5 || k == 6
def pieceK (k : Int) : Bool := atomK k || k == 4
def branchK (k : Int) : Bool := pieceK k || k == 2
/-- behind a call that leaves a block of its own as it was -/
theorem box_below {w w2 : World} {o : Obj} (hb : Below (w.alloc o).heap.size (w.alloc o) w2) : Below w.heap.size w w2 :=
  ((Below.refl _ _).alloc (Nat.le_refl _) _).trans (hb.mono (by simp))
theorem box_cell {w w2 : World} {o : Obj} (hb : Below (w.alloc o).heap.size (w.alloc o) w2) (q : Nat) : w2.cell? ⟨w.heap.size, q, none⟩ = (w.alloc o).cell? ⟨w.heap.size, q, none⟩ :=
  hb.cell (p := ⟨w.heap.size, q, none⟩) (by simp)
def boundedN (lo hi : Int) : Bool := decide (0 ≤ lo) && decide (lo ≤ 255) && (hi == -1 || decide (lo ≤ hi) && decide (hi ≤ 255))
end Go.Proofs.Ytddbheoncbphhaa
