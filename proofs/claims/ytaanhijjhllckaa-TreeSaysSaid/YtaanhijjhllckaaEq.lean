/- '==' on sets: arrays of four words. -/
import Derived.Test.YtaanhijjhllckaaSetAll
import Derived.ChangeKeysEq
namespace Go.Proofs.Ytaanhijjhllckaa
set_option maxRecDepth 100000
open Go.RowKit
theorem info_u64 : (Try.prog.info? 22).map (fun i => (i.zero, i.size, i.bytes)) = some (some (.int .u64 0), 1, 8) := by kernel_rfl
theorem word_ext (s t : BitVec 256) (h0 : word s 0 = word t 0) (h1 : word s 1 = word t 1) (h2 : word s 2 = word t 2) (h3 : word s 3 = word t 3) : s = t := by
  apply BitVec.eq_of_getLsbD_eq
  intro b hb
  have e : ∀ i j, j < 64 → word s i = word t i → s.getLsbD (64 * i + j) = t.getLsbD (64 * i + j) := fun i j hj h => by rw [← word_bit s i j hj, ← word_bit t i j hj, h]
  have hj : b % 64 < 64 := Nat.mod_lt _ (by decide)
  have hq : b / 64 = 0 ∨ b / 64 = 1 ∨ b / 64 = 2 ∨ b / 64 = 3 := by omega
  have hbe : b = 64 * (b / 64) + b % 64 := by omega
  rw [hbe]
  rcases hq with h | h | h | h <;> rw [h]
  · exact e 0 _ hj h0
  · exact e 1 _ hj h1
  · exact e 2 _ hj h2
  · exact e 3 _ hj h3
theorem run_part_cell {P : Program} {e : TypeId} {xs : Array Value} {i : Nat} {v : Value} (w : World) (hA : (isAgg e).run P w = .ok false w) (h : xs[i]? = some v) : (part e xs i).run P w = .ok v w := by
  unfold part
  simp only [Sem.run_bind, hA, Result.andThen_ok, Bool.false_eq_true, if_false, h]
  rfl
theorem run_eqItems {P : Program} {d : Nat} {e : TypeId} {xs ys : Array Value} {w : World} (hA : (isAgg e).run P w = .ok false w) (x y : Nat → Value) (same : Nat → Bool) :
    ∀ (is : List Nat), (∀ i ∈ is, xs[i]? = some (x i)) → (∀ i ∈ is, ys[i]? = some (y i)) → (∀ i ∈ is, (Op.equalIn d e (x i) (y i)).run P w = .ok (same i) w) →
      (Op.eqItems d e 1 xs ys is).run P w = .ok (is.all same) w
  | [], _, _, _ => rfl
  | i :: is, hx, hy, hs => by
    have ih := run_eqItems hA x y same is (fun j hj => hx j (by simp [hj])) (fun j hj => hy j (by simp [hj])) (fun j hj => hs j (by simp [hj]))
    simp only [Op.eqItems, Sem.run_bind, Nat.mul_one, run_part_cell w hA (hx i (by simp)), run_part_cell w hA (hy i (by simp)), Result.andThen_ok, hs i (by simp)]
    cases h : same i
    · simp [h]
    · simp [h, ih]
theorem agg_u64 (w : World) : (isAgg 22).run Try.prog w = .ok false w := by kernel_rfl
theorem eql_set (s t : BitVec 256) (w : World) : (Op.equalIn 10000 24 (SV s) (SV t)).run Try.prog w = .ok (decide (s = t)) w := by
  obtain ⟨i0, hi, hz0, hz1, hz2⟩ := info_parts info_u64
  have hc : Try.prog.cellsOf 22 = 1 := by kernel_rfl
  rw [show (10000 : Nat) = 9999 + 1 from rfl, run_equalIn_array w 9999 _ _ Try.underlying24 hi, hc]
  have hr : List.range 4 = [0, 1, 2, 3] := rfl
  rw [hr, run_eqItems (agg_u64 w) (fun i => .int .u64 (word s i)) (fun i => .int .u64 (word t i)) (fun i => (word s i : Int) == (word t i : Int))]
  · congr 1
    simp only [List.all_cons, List.all_nil, Bool.and_true]
    rw [Bool.eq_iff_iff]
    simp only [Bool.and_eq_true, beq_iff_eq, decide_eq_true_eq]
    constructor
    · rintro ⟨h0, h1, h2, h3⟩; exact word_ext s t (by omega) (by omega) (by omega) (by omega)
    · rintro rfl; simp
  · intro i hi; simp at hi; rcases hi with rfl | rfl | rfl | rfl <;> rfl
  · intro i hi; simp at hi; rcases hi with rfl | rfl | rfl | rfl <;> rfl
  · intro i _; exact run_equalIn_int _ 9998 _ _ _ _ _ Try.underlying22
end Go.Proofs.Ytaanhijjhllckaa
