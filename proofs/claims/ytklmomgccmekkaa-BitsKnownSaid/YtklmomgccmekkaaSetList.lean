/- The plain mathematics of a set's elements in order: word by word, and within a word lowest bit by lowest bit. -/
import Derived.Test.YtklmomgccmekkaaPop
import Derived.Lib.TrailingZeros
namespace Go.Proofs.Ytklmomgccmekkaa
set_option maxRecDepth 100000
open Go.RowKit

/-- the places of a word's ones, rising -/
def bitsOf (x : Nat) : List Nat := (List.range 64).filter x.testBit
/-- a set's elements, rising -/
def elems (s : BitVec 256) : List Nat := (List.range 256).filter s.getLsbD
/-- the elements in word i -/
def wordElems (s : BitVec 256) (i : Nat) : List Nat := (bitsOf (word s i)).map (64 * i + ·)

theorem filter_cons_range (n k : Nat) (p q : Nat → Bool) (hk : k < n) (h1 : ∀ j, j < k → p j = false) (h2 : ∀ j, j ≤ k → q j = false) (hp : p k = true) (h3 : ∀ j, k < j → j < n → p j = q j) :
    (List.range n).filter p = k :: (List.range n).filter q := by
  obtain ⟨r, rfl⟩ : ∃ r, n = k + (1 + r) := ⟨n - k - 1, by omega⟩
  rw [List.range_add, List.filter_append, List.filter_append, List.range_add, List.map_append, List.filter_append, List.filter_append]
  have e1 : (List.range k).filter p = [] := by rw [List.filter_eq_nil_iff]; intro j hj; rw [List.mem_range] at hj; simp [h1 j hj]
  have e2 : (List.range k).filter q = [] := by rw [List.filter_eq_nil_iff]; intro j hj; rw [List.mem_range] at hj; simp [h2 j (by omega)]
  rw [e1, e2]
  have e3 : ((List.range 1).map (k + ·)).filter p = [k] := by simp [hp]
  have e4 : ((List.range 1).map (k + ·)).filter q = [] := by simp [h2 k (by omega)]
  rw [e3, e4]
  simp only [List.nil_append, List.singleton_append, List.cons.injEq, true_and]
  apply List.filter_congr
  intro j hj
  simp only [List.mem_map, List.mem_range] at hj
  obtain ⟨a, ⟨b, hb, rfl⟩, rfl⟩ := hj
  exact h3 _ (by omega) (by omega)

theorem low_parts (x : Nat) (h0 : x ≠ 0) (hx : x < 2 ^ 64) : ∃ m, x = 2 ^ Lib.ctz 64 x * (2 * m + 1) ∧ Lib.ctz 64 x < 64 := by
  have := Lib.ctzFrom_spec 64 x (by omega) hx
  simpa [Lib.ctz, h0] using this
theorem drop_low (k m : Nat) : (2 ^ k * (2 * m + 1)) &&& (2 ^ k * (2 * m + 1) - 1) = 2 ^ (k + 1) * m := by
  have hp := Nat.two_pow_pos k
  have e : 2 ^ (k + 1) = 2 * 2 ^ k := by rw [Nat.pow_succ, Nat.mul_comm]
  have e1 : 2 ^ k * (2 * m + 1) = 2 ^ k + 2 ^ (k + 1) * m := by rw [e]; grind
  have e2 : 2 ^ k * (2 * m + 1) - 1 = (2 ^ k - 1) + 2 ^ (k + 1) * m := by rw [e1]; omega
  rw [e2, e1, and_parts _ _ (2 ^ (k + 1)) (k + 1) rfl]
  rw [Nat.add_mul_mod_self_left, Nat.add_mul_mod_self_left, Nat.add_mul_div_left _ _ (by omega), Nat.add_mul_div_left _ _ (by omega)]
  rw [Nat.mod_eq_of_lt (by omega : 2 ^ k < 2 ^ (k + 1)), Nat.mod_eq_of_lt (by omega : 2 ^ k - 1 < 2 ^ (k + 1)), Nat.div_eq_of_lt (by omega : 2 ^ k < 2 ^ (k + 1)), Nat.div_eq_of_lt (by omega : 2 ^ k - 1 < 2 ^ (k + 1))]
  rw [Nat.and_two_pow_sub_one_eq_mod, Nat.mod_self]
  simp
theorem bitsOf_cons (x : Nat) (h0 : x ≠ 0) (hx : x < 18446744073709551616) : bitsOf x = Lib.ctz 64 x :: bitsOf (x &&& (x - 1)) := by
  obtain ⟨m, e, hk⟩ := low_parts x h0 hx
  generalize Lib.ctz 64 x = k at *
  have hd : x &&& (x - 1) = 2 ^ (k + 1) * m := by rw [e, drop_low]
  rw [hd]
  have tx : ∀ j, x.testBit j = (decide (j ≥ k) && (2 * m + 1).testBit (j - k)) := fun j => by rw [e, Nat.testBit_two_pow_mul]
  have ty : ∀ j, (2 ^ (k + 1) * m).testBit j = (decide (j ≥ k + 1) && m.testBit (j - (k + 1))) := fun j => Nat.testBit_two_pow_mul
  unfold bitsOf
  refine filter_cons_range 64 k _ _ hk (fun j hj => ?_) (fun j hj => ?_) ?_ (fun j hj _ => ?_)
  · rw [tx, decide_eq_false (by omega), Bool.false_and]
  · rw [ty, decide_eq_false (by omega), Bool.false_and]
  · rw [tx, decide_eq_true (by omega), Nat.sub_self, Nat.testBit_zero]; simp
  · rw [tx, ty, decide_eq_true (by omega), decide_eq_true (by omega), show j - k = (j - (k + 1)) + 1 from by omega, Nat.testBit_succ, show (2 * m + 1) / 2 = m from by omega]
theorem bitsOf_zero : bitsOf 0 = [] := by
  unfold bitsOf; rw [List.filter_eq_nil_iff]; intro j _; simp
theorem drop_lt (x : Nat) (h0 : x ≠ 0) : x &&& (x - 1) < x := Nat.lt_of_le_of_lt Nat.and_le_right (by omega)
theorem bitsOf_length (x : Nat) : (bitsOf x).length = digs 1 64 x := (digs_ones 64 x).symm
theorem bitsOf_length_le (x : Nat) : (bitsOf x).length ≤ 64 := by
  have := List.length_filter_le x.testBit (List.range 64)
  unfold bitsOf; simpa using this

theorem range256 : List.range 256 = (List.range 64).map (64 * 0 + ·) ++ ((List.range 64).map (64 * 1 + ·) ++ ((List.range 64).map (64 * 2 + ·) ++ (List.range 64).map (64 * 3 + ·))) := by decide +kernel
theorem filter_word (s : BitVec 256) (i : Nat) : ((List.range 64).map (64 * i + ·)).filter s.getLsbD = wordElems s i := by
  rw [wordElems, bitsOf, List.filter_map]
  congr 1
  apply List.filter_congr
  intro j hj
  rw [List.mem_range] at hj
  rw [word_bit _ _ _ hj]
  rfl
theorem elems_words (s : BitVec 256) : elems s = wordElems s 0 ++ (wordElems s 1 ++ (wordElems s 2 ++ wordElems s 3)) := by
  unfold elems
  rw [range256, List.filter_append, List.filter_append, List.filter_append, filter_word, filter_word, filter_word, filter_word]
theorem wordElems_length (s : BitVec 256) (i : Nat) : (wordElems s i).length = digs 1 64 (word s i) := by rw [wordElems, List.length_map, bitsOf_length]
theorem elems_length (s : BitVec 256) : (elems s).length = digs 1 64 (word s 0) + digs 1 64 (word s 1) + digs 1 64 (word s 2) + digs 1 64 (word s 3) := by
  rw [elems_words, List.length_append, List.length_append, List.length_append, wordElems_length, wordElems_length, wordElems_length, wordElems_length]
  omega
theorem elems_length_le (s : BitVec 256) : (elems s).length ≤ 256 := by
  have := List.length_filter_le s.getLsbD (List.range 256)
  unfold elems; simpa using this
theorem digs_le (x : Nat) : digs 1 64 x ≤ 64 := by rw [← bitsOf_length]; exact bitsOf_length_le x
theorem mem_elems (s : BitVec 256) (b : Nat) : b ∈ elems s ↔ b < 256 ∧ s.getLsbD b = true := by
  unfold elems; rw [List.mem_filter, List.mem_range]
/-- the elements from word i on -/
def wordsFrom (s : BitVec 256) (i : Nat) : List Nat := ((List.range (4 - i)).map (fun j => wordElems s (i + j))).flatten
theorem wordsFrom_zero (s : BitVec 256) : wordsFrom s 0 = elems s := by
  rw [elems_words]; simp [wordsFrom, List.range_succ]
theorem wordsFrom_succ (s : BitVec 256) (i : Nat) (h : i < 4) : wordsFrom s i = wordElems s i ++ wordsFrom s (i + 1) := by
  unfold wordsFrom
  rw [show 4 - i = (4 - (i + 1)) + 1 from by omega, List.range_succ_eq_map, List.map_cons, List.flatten_cons, List.map_map]
  congr 2
  apply List.map_congr_left
  intro j _
  simp [Nat.add_assoc, Nat.add_comm 1]
theorem wordsFrom_four (s : BitVec 256) : wordsFrom s 4 = [] := rfl
end Go.Proofs.Ytklmomgccmekkaa
