/- The small functions of package tree: which kinds may stand where, the bounds, the depth. -/
import Derived.Test.YtlgpbgcheeaalaaGreatDoorTreeHeavy
import Derived.Test.YtlgpbgcheeaalaaGreatDoorEq
namespace Go.Proofs.YtlgpbgcheeaalaaGreatDoor
set_option maxRecDepth 100000
open Go.RowKit
/-- the cells of a node -/
theorem at_cells {w : World} {x : Nd} {cs : List Value} (hat : Nd.at w x cs) : ∃ (s : BitVec 256) (lo hi n : Int) (a : Option Addr) (cap : Nat), x = .mk x.kind s lo hi n x.nodes ∧
    cs = [.int .i64 x.kind, .int .u64 (word s 0), .int .u64 (word s 1), .int .u64 (word s 2), .int .u64 (word s 3), .int .i64 lo, .int .i64 hi, .int .i64 n, .slice a x.nodes.length cap] := by
  cases x with
  | mk k s lo hi n l =>
    rw [at_mk] at hat
    obtain ⟨_, _, _, _, a, cap, hcs, _, _⟩ := hat
    exact ⟨s, lo, hi, n, a, cap, rfl, hcs⟩
def atomK (k : Int) : Bool := k == 1 || k == 5 || k == 6
def pieceK (k : Int) : Bool := atomK k || k == 4
def branchK (k : Int) : Bool := pieceK k || k == 2
set_option maxRecDepth 100000 in
set_option maxHeartbeats 1000000 in
theorem isAtom_walk {x : Nd} {cs : List Value} {w0 : World} (hat : Nd.at w0 x cs) (w : World) :
    Calls Tryz.prog 113 #[.agg cs.toArray] w fun e w' => e = .returned (.bool (atomK x.kind)) ∧ Below w.heap.size w w' := by
  obtain ⟨s, lo, hi, n, a, cap, _, rfl⟩ := at_cells hat
  generalize x.kind = k
  generalize x.nodes.length = len
  clear hat
  cases h1 : (k == 1) <;> cases h2 : (k == 5) <;> cases h3 : (k == 6) <;> (
    go_enter Tryz.func113, Tryz.ntmps113
    go_wp2
    go_ret
    exact ⟨by simp [atomK, h1, h2, h3], (Below.refl _ _).alloc (Nat.le_refl _) _⟩)
/-- behind a call that leaves a block of its own as it was -/
theorem box_below {w w2 : World} {o : Obj} (hb : Below (w.alloc o).heap.size (w.alloc o) w2) : Below w.heap.size w w2 :=
  ((Below.refl _ _).alloc (Nat.le_refl _) _).trans (hb.mono (by simp))
theorem box_cell {w w2 : World} {o : Obj} (hb : Below (w.alloc o).heap.size (w.alloc o) w2) (q : Nat) : w2.cell? ⟨w.heap.size, q, none⟩ = (w.alloc o).cell? ⟨w.heap.size, q, none⟩ :=
  hb.cell (p := ⟨w.heap.size, q, none⟩) (by simp)
set_option maxRecDepth 100000 in
set_option maxHeartbeats 1000000 in
theorem isPiece_walk {x : Nd} {cs : List Value} {w0 : World} (hat : Nd.at w0 x cs) (w : World) :
    Calls Tryz.prog 110 #[.agg cs.toArray] w fun e w' => e = .returned (.bool (pieceK x.kind)) ∧ Below w.heap.size w w' := by
  have hc := isAtom_walk hat
  obtain ⟨s, lo, hi, n, a, cap, _, rfl⟩ := at_cells hat
  clear hat
  generalize x.kind = k at *
  generalize x.nodes.length = len at *
  cases h1 : atomK k <;> rw [h1] at hc <;> cases h2 : (k == 4) <;> (
    go_enter Tryz.func110, Tryz.ntmps110
    go_wp2_with (go_at_call 113; refine (hc _).mono ?_; clear hc; rintro e w2 ⟨rfl, hb⟩; have hcell := box_cell hb)
    go_ret
    exact ⟨by simp [pieceK, h1, h2], box_below hb⟩)
set_option maxRecDepth 100000 in
set_option maxHeartbeats 1000000 in
theorem isBranch_walk {x : Nd} {cs : List Value} {w0 : World} (hat : Nd.at w0 x cs) (w : World) :
    Calls Tryz.prog 111 #[.agg cs.toArray] w fun e w' => e = .returned (.bool (branchK x.kind)) ∧ Below w.heap.size w w' := by
  have hc := isPiece_walk hat
  obtain ⟨s, lo, hi, n, a, cap, _, rfl⟩ := at_cells hat
  clear hat
  generalize x.kind = k at *
  generalize x.nodes.length = len at *
  cases h1 : pieceK k <;> rw [h1] at hc <;> cases h2 : (k == 2) <;> (
    go_enter Tryz.func111, Tryz.ntmps111
    go_wp2_with (go_at_call 110; refine (hc _).mono ?_; clear hc; rintro e w2 ⟨rfl, hb⟩; have hcell := box_cell hb)
    go_ret
    exact ⟨by simp [branchK, h1, h2], box_below hb⟩)
def boundedN (lo hi : Int) : Bool := decide (0 ≤ lo) && decide (lo ≤ 255) && (hi == -1 || decide (lo ≤ hi) && decide (hi ≤ 255))
set_option maxRecDepth 100000 in
set_option maxHeartbeats 1000000 in
theorem bounded_walk (lo hi : Int) (w : World) :
    Calls Tryz.prog 112 #[.int .i64 lo, .int .i64 hi] w fun e w' => e = .returned (.bool (boundedN lo hi)) ∧ w = w' := by
  cases h1 : decide (0 ≤ lo) <;> cases h2 : decide (lo ≤ 255) <;> cases h3 : (hi == -1) <;> cases h4 : decide (lo ≤ hi) <;> cases h5 : decide (hi ≤ 255) <;> (
    go_enter Tryz.func112, Tryz.ntmps112
    go_wp2
    go_ret
    exact ⟨by simp only [boundedN, h1, h2, h3, h4, h5]; rfl, rfl⟩)
end Go.Proofs.YtlgpbgcheeaalaaGreatDoor
