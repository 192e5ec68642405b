/- The plain mathematics of a set of bytes: a BitVec of 256 bits, its four words, and how the words of sets that are joined, met, turned are reckoned. -/
import Derived.Test.YtklmomgccmekkaaRows
import Derived.WalkKit
namespace Go.Proofs.Ytklmomgccmekkaa
set_option maxRecDepth 100000
open Go.RowKit

/-- word i of a set, as a number -/
def word (s : BitVec 256) (i : Nat) : Nat := (s.extractLsb' (64 * i) 64).toNat
/-- a set as the program holds it -/
abbrev SV (s : BitVec 256) : Value := .agg #[.int .u64 (word s 0), .int .u64 (word s 1), .int .u64 (word s 2), .int .u64 (word s 3)]

theorem word_lt (s : BitVec 256) (i : Nat) : word s i < 18446744073709551616 := (s.extractLsb' (64 * i) 64).isLt
theorem word_bit (s : BitVec 256) (i j : Nat) (hj : j < 64) : (word s i).testBit j = s.getLsbD (64 * i + j) := by
  unfold word
  rw [BitVec.testBit_toNat, BitVec.getLsbD_extractLsb', decide_eq_true hj, Bool.true_and]

theorem ofInt_toNat (a : Nat) (ha : a < 18446744073709551616) : (BitVec.ofInt 64 (a : Int)).toNat = a := by
  rw [BitVec.ofInt_natCast, BitVec.toNat_ofNat]; exact Nat.mod_eq_of_lt (by omega)
theorem bits_or_nat (a b : Nat) (ha : a < 18446744073709551616) (hb : b < 18446744073709551616) :
    bits .or .u64 (a : Int) (b : Int) = ((a ||| b : Nat) : Int) := by
  have hx : a ||| b < 2 ^ 64 := Nat.or_lt_two_pow (by omega) (by omega)
  show IntKind.u64.wrap ((BitVec.ofInt 64 (a : Int) ||| BitVec.ofInt 64 (b : Int)).toNat : Int) = _
  rw [BitVec.toNat_or, ofInt_toNat a ha, ofInt_toNat b hb, IntKind.wrap_u64]
  omega
theorem bits_and_nat (a b : Nat) (ha : a < 18446744073709551616) (hb : b < 18446744073709551616) :
    bits .and .u64 (a : Int) (b : Int) = ((a &&& b : Nat) : Int) := by
  have hx : a &&& b < 2 ^ 64 := Nat.and_lt_two_pow _ (by omega)
  show IntKind.u64.wrap ((BitVec.ofInt 64 (a : Int) &&& BitVec.ofInt 64 (b : Int)).toNat : Int) = _
  rw [BitVec.toNat_and, ofInt_toNat a ha, ofInt_toNat b hb, IntKind.wrap_u64]
  omega
theorem word_or (s t : BitVec 256) (i : Nat) : bits .or .u64 (word s i : Int) (word t i : Int) = (word (s ||| t) i : Int) := by
  rw [bits_or_nat _ _ (word_lt s i) (word_lt t i)]
  congr 1
  unfold word
  rw [← BitVec.toNat_or, BitVec.extractLsb'_or]
theorem word_and (s t : BitVec 256) (i : Nat) : bits .and .u64 (word s i : Int) (word t i : Int) = (word (s &&& t) i : Int) := by
  rw [bits_and_nat _ _ (word_lt s i) (word_lt t i)]
  congr 1
  unfold word
  rw [← BitVec.toNat_and, BitVec.extractLsb'_and]
theorem bits_not_nat (b : Nat) (hb : b < 18446744073709551616) : bits .xor .u64 IntKind.u64.max (b : Int) = ((18446744073709551615 - b : Nat) : Int) := by
  have e : IntKind.u64.max = ((18446744073709551615 : Nat) : Int) := by kernel_rfl
  rw [e, bits_xor_u64_nat _ _ (by omega) hb]
  congr 1
  have : (18446744073709551615 ^^^ b) = (BitVec.allOnes 64 ^^^ BitVec.ofNat 64 b).toNat := by
    rw [BitVec.toNat_xor, BitVec.toNat_allOnes, BitVec.toNat_ofNat, Nat.mod_eq_of_lt (by omega)]
  rw [this, BitVec.allOnes_xor, BitVec.toNat_not, BitVec.toNat_ofNat, Nat.mod_eq_of_lt (by omega)]
theorem word_not (s : BitVec 256) (i : Nat) (hi : i < 4 := by decide) : bits .xor .u64 IntKind.u64.max (word s i : Int) = (word (~~~s) i : Int) := by
  rw [bits_not_nat _ (word_lt s i)]
  congr 1
  unfold word
  have : (~~~s).extractLsb' (64 * i) 64 = ~~~(s.extractLsb' (64 * i) 64) := by
    apply BitVec.eq_of_getLsbD_eq
    intro j hj
    simp [hj]
    omega
  rw [this, BitVec.toNat_not]
theorem has_word (s : BitVec 256) (b q : Nat) (h : b / 64 = q) : (bits BinOp.and IntKind.u64 ((word s q : Int) / 2 ^ (b % 64)) 1 == 1) = s.getLsbD b := by
  have e : ((word s q : Int) / 2 ^ (b % 64)) = ((word s q / 2 ^ (b % 64) : Nat) : Int) := by simp
  have hlt : word s q / 2 ^ (b % 64) < 18446744073709551616 := Nat.lt_of_le_of_lt (Nat.div_le_self _ _) (word_lt s q)
  rw [e, show (1 : Int) = ((1 : Nat) : Int) from rfl, bits_and_nat _ _ hlt (by omega), Nat.and_one_is_mod]
  have hb : s.getLsbD b = (word s q).testBit (b % 64) := by rw [word_bit _ _ _ (Nat.mod_lt _ (by omega))]; congr 1; omega
  rw [hb, Nat.testBit_eq_decide_div_mod_eq]
  by_cases h1 : word s q / 2 ^ (b % 64) % 2 = 1
  · simp [h1]
  · have : word s q / 2 ^ (b % 64) % 2 = 0 := by omega
    simp [this]
end Go.Proofs.Ytklmomgccmekkaa
