/- The walks of TrailingZeros64, lowest, Len, Least. -/
import Derived.Test.YtlgpbgcheeaalaaGreatDoorSetList
import Derived.Test.YtlgpbgcheeaalaaGreatDoorSetOps
import Derived.Shelf.Spec.TrailingZeros
namespace Go.Proofs.YtlgpbgcheeaalaaGreatDoor
set_option maxRecDepth 100000
open Go.RowKit

theorem ret_int {k : IntKind} {a b : Int} (h : a = b) : Ending.returned (.int k a) = .returned (.int k b) := by rw [h]
theorem ret_two {k : IntKind} {a b : Int} {c : Bool} (h : a = b) : Ending.returned (.tuple #[.int k a, .bool c]) = .returned (.tuple #[.int k b, .bool c]) := by rw [h]
theorem tab_below {B : Nat} {w w' : World} (h : TabAt 0 Lib.deBruijn64tab w) (hb : Below B w w') (hB : 0 < B) : TabAt 0 Lib.deBruijn64tab w' :=
  fun j hj => by rw [hb.cell (p := ⟨0, j, none⟩) hB]; exact h j hj
theorem tab_pos {w : World} (h : TabAt 0 Lib.deBruijn64tab w) : 0 < w.heap.size := by
  have := h 0 (by decide)
  exact World.block_lt_of_cell? w _ this
theorem tab_alloc {w : World} (h : TabAt 0 Lib.deBruijn64tab w) (o : Obj) : TabAt 0 Lib.deBruijn64tab (w.alloc o) :=
  tab_below h ((Below.refl _ _).alloc (Nat.le_refl _) o) (tab_pos h)
theorem tab_drew {w : World} (h : TabAt 0 Lib.deBruijn64tab w) : TabAt 0 Lib.deBruijn64tab w.drew := h

set_option maxHeartbeats 1000000 in
theorem tz_core (x k idx : Nat) (w : World) (hx0 : ((x : Int) == 0) = false)
    (key : IntKind.u64.wrap (bits BinOp.and IntKind.u64 (x : Int) (IntKind.u64.wrap (-(x : Int))) * 285870213051353865) / 288230376151711744 = (idx : Int))
    (hi : idx < 64) (hk : k < 64) (hcell : w.cell? ⟨0, idx, none⟩ = some (.int .u8 k)) :
    Calls Tryz.prog 126 #[.int .u64 x] w fun e w' => e = .returned (.int .i64 k) ∧ w = w' := by
  go_enter Tryz.func126, Tryz.ntmps126
  go_wp2_with (simp only [key])
  go_ret
  exact ⟨rfl, rfl⟩
theorem tz_any (x : Nat) (hx : x < 18446744073709551616) (h0 : x ≠ 0) (w : World) (hT : TabAt 0 Lib.deBruijn64tab w) :
    Calls Tryz.prog 126 #[.int .u64 x] w fun e w' => e = .returned (.int .i64 (Lib.ctz 64 x)) ∧ w = w' := by
  obtain ⟨hlow, hk⟩ := Lib.lowest_bit 64 x h0 hx
  obtain ⟨hi, htab⟩ := Lib.deBruijn64_at _ hk
  have hcell := hT _ hi
  rw [htab] at hcell
  exact tz_core x _ _ w (by simp; omega) (tz64_key x _ hx h0 hlow) hi hk hcell
set_option maxHeartbeats 1000000 in
theorem lowest_any (i x : Nat) (I : Int) (hI : I = (i : Int)) (hi : i < 4) (hx : x < 18446744073709551616) (h0 : x ≠ 0) (w : World) (hT : TabAt 0 Lib.deBruijn64tab w) :
    Calls Tryz.prog 115 #[.int .i64 I, .int .u64 x] w fun e w' => e = .returned (.int .u8 (64 * i + Lib.ctz 64 x : Nat)) ∧ w = w' := by
  have hk := (Lib.lowest_bit 64 x h0 hx).2
  subst hI
  go_enter Tryz.func115, Tryz.ntmps115
  go_wp2_with (go_at_call 126; refine (tz_any x hx h0 _ hT).mono ?_; rintro e w' ⟨rfl, rfl⟩)
  go_ret
  exact ⟨ret_int (by omega), rfl⟩
theorem idx0 (x0 x1 x2 x3 : Value) (w : World) : (Instr.index 27 (.agg #[x0, x1, x2, x3]) (.int .i64 0)).run Tryz.prog w = .ok x0 w := by kernel_rfl
theorem idx1 (x0 x1 x2 x3 : Value) (w : World) : (Instr.index 27 (.agg #[x0, x1, x2, x3]) (.int .i64 1)).run Tryz.prog w = .ok x1 w := by kernel_rfl
theorem idx2 (x0 x1 x2 x3 : Value) (w : World) : (Instr.index 27 (.agg #[x0, x1, x2, x3]) (.int .i64 2)).run Tryz.prog w = .ok x2 w := by kernel_rfl
theorem idx3 (x0 x1 x2 x3 : Value) (w : World) : (Instr.index 27 (.agg #[x0, x1, x2, x3]) (.int .i64 3)).run Tryz.prog w = .ok x3 w := by kernel_rfl
set_option maxHeartbeats 1000000 in
theorem len_any (s : BitVec 256) (w : World) :
    Calls Tryz.prog 58 #[SV s] w fun e w' => e = .returned (.int .i64 (elems s).length) ∧ Below w.heap.size w w' := by
  have d0 := digs_le (word s 0)
  have d1 := digs_le (word s 1)
  have d2 := digs_le (word s 2)
  have d3 := digs_le (word s 3)
  have hl := Lib.hid (elems_length s)
  have i0 := idx0
  have i1 := idx1
  have i2 := idx2
  have i3 := idx3
  go_enter Tryz.func58, Tryz.ntmps58
  go_wp2
  refine wp_loop_rounds 5 ?_
  iterate 4 (rw [rounds_succ]; go_wp2_with (go_at_call 91; refine (ones_any _ (word_lt _ _) _).mono ?_; rintro e w' ⟨rfl, rfl⟩))
  rw [rounds_succ]
  go_wp2
  go_ret
  exact ⟨ret_int (by rw [hl.out]; omega), (Below.refl _ _).alloc (Nat.le_refl _) _⟩
theorem elems_head (s : BitVec 256) (i : Nat) (hi : i < 4) (hz : ∀ j, j < i → word s j = 0) (h0 : word s i ≠ 0) : ∃ l, elems s = (64 * i + Lib.ctz 64 (word s i)) :: l := by
  have hn : ∀ j, j < i → wordElems s j = [] := fun j hj => by rw [wordElems, hz j hj, bitsOf_zero]; rfl
  have hs : ∀ k, k ≤ i → elems s = wordsFrom s k := by
    intro k hk
    induction k with
    | zero => exact (wordsFrom_zero s).symm
    | succ k ih => rw [ih (by omega), wordsFrom_succ s k (by omega), hn k (by omega)]; rfl
  rw [hs i (Nat.le_refl _), wordsFrom_succ s i hi, wordElems, bitsOf_cons _ h0 (word_lt _ _)]
  exact ⟨_, rfl⟩
theorem ne_bool (x : Nat) (h : x ≠ 0) : ((x : Int) != 0) = true := by rw [bne_iff_ne]; omega
theorem eq_bool (x : Nat) (h : x = 0) : ((x : Int) != 0) = false := by subst h; rfl
end Go.Proofs.YtlgpbgcheeaalaaGreatDoor
