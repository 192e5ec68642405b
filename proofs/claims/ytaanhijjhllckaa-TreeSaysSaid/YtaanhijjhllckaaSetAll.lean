/- SetMath, Pop, SetList, SetOps, SetRead, SetMake, SetBuild, as one. -/
import Derived.Test.YtaanhijjhllckaaRows
import Derived.WalkKit
import Derived.Lib.TrailingZeros
import Derived.WalkSpells
import Derived.WalkLawsBesides
import Derived.BigRegion
import Derived.Lib.Hide
import Derived.Deep.RegionWith
import Derived.Deep.RegionHeld3
import Derived.BigQuiet
import Derived.Deep.QuietTactic
import Derived.Shelf.Spec.TrailingZeros
import Derived.Deep.LoopGhost
import Derived.OneCell
namespace Go.Proofs.Ytaanhijjhllckaa
set_option maxRecDepth 100000
open Go.RowKit

/-- word i of a set, as a number -/
def word (s : BitVec 256) (i : Nat) : Nat := (s.extractLsb' (64 * i) 64).toNat
/-- a set as the program holds it -/
abbrev SV (s : BitVec 256) : Value := .agg #[.int .u64 (word s 0), .int .u64 (word s 1), .int .u64 (word s 2), .int .u64 (word s 3)]

theorem word_lt (s : BitVec 256) (i : Nat) : word s i < 18446744073709551616 := (s.extractLsb' (64 * i) 64).isLt
theorem word_bit (s : BitVec 256) (i j : Nat) (hj : j < 64) : (word s i).testBit j = s.getLsbD (64 * i + j) := by
  unfold word
  rw [BitVec.testBit_toNat, BitVec.getLsbD_extractLsb', decide_eq_true hj, Bool.true_and]

theorem ofInt_toNat (a : Nat) (ha : a < 18446744073709551616) : (BitVec.ofInt 64 (a : Int)).toNat = a := by
  rw [BitVec.ofInt_natCast, BitVec.toNat_ofNat]; exact Nat.mod_eq_of_lt (by omega)
theorem bits_or_nat (a b : Nat) (ha : a < 18446744073709551616) (hb : b < 18446744073709551616) :
    bits .or .u64 (a : Int) (b : Int) = ((a ||| b : Nat) : Int) := by
  have hx : a ||| b < 2 ^ 64 := Nat.or_lt_two_pow (by omega) (by omega)
  show IntKind.u64.wrap ((BitVec.ofInt 64 (a : Int) ||| BitVec.ofInt 64 (b : Int)).toNat : Int) = _
  rw [BitVec.toNat_or, ofInt_toNat a ha, ofInt_toNat b hb, IntKind.wrap_u64]
  omega
theorem bits_and_nat (a b : Nat) (ha : a < 18446744073709551616) (hb : b < 18446744073709551616) :
    bits .and .u64 (a : Int) (b : Int) = ((a &&& b : Nat) : Int) := by
  have hx : a &&& b < 2 ^ 64 := Nat.and_lt_two_pow _ (by omega)
  show IntKind.u64.wrap ((BitVec.ofInt 64 (a : Int) &&& BitVec.ofInt 64 (b : Int)).toNat : Int) = _
  rw [BitVec.toNat_and, ofInt_toNat a ha, ofInt_toNat b hb, IntKind.wrap_u64]
  omega
theorem word_or (s t : BitVec 256) (i : Nat) : bits .or .u64 (word s i : Int) (word t i : Int) = (word (s ||| t) i : Int) := by
  rw [bits_or_nat _ _ (word_lt s i) (word_lt t i)]
  congr 1
  unfold word
  rw [← BitVec.toNat_or, BitVec.extractLsb'_or]
theorem word_and (s t : BitVec 256) (i : Nat) : bits .and .u64 (word s i : Int) (word t i : Int) = (word (s &&& t) i : Int) := by
  rw [bits_and_nat _ _ (word_lt s i) (word_lt t i)]
  congr 1
  unfold word
  rw [← BitVec.toNat_and, BitVec.extractLsb'_and]
theorem bits_not_nat (b : Nat) (hb : b < 18446744073709551616) : bits .xor .u64 IntKind.u64.max (b : Int) = ((18446744073709551615 - b : Nat) : Int) := by
  have e : IntKind.u64.max = ((18446744073709551615 : Nat) : Int) := by kernel_rfl
  rw [e, bits_xor_u64_nat _ _ (by omega) hb]
  congr 1
  have : (18446744073709551615 ^^^ b) = (BitVec.allOnes 64 ^^^ BitVec.ofNat 64 b).toNat := by
    rw [BitVec.toNat_xor, BitVec.toNat_allOnes, BitVec.toNat_ofNat, Nat.mod_eq_of_lt (by omega)]
  rw [this, BitVec.allOnes_xor, BitVec.toNat_not, BitVec.toNat_ofNat, Nat.mod_eq_of_lt (by omega)]
theorem word_not (s : BitVec 256) (i : Nat) (hi : i < 4 := by decide) : bits .xor .u64 IntKind.u64.max (word s i : Int) = (word (~~~s) i : Int) := by
  rw [bits_not_nat _ (word_lt s i)]
  congr 1
  unfold word
  have : (~~~s).extractLsb' (64 * i) 64 = ~~~(s.extractLsb' (64 * i) 64) := by
    apply BitVec.eq_of_getLsbD_eq
    intro j hj
    simp [hj]
    omega
  rw [this, BitVec.toNat_not]
theorem has_word (s : BitVec 256) (b q : Nat) (h : b / 64 = q) : (bits BinOp.and IntKind.u64 ((word s q : Int) / 2 ^ (b % 64)) 1 == 1) = s.getLsbD b := by
  have e : ((word s q : Int) / 2 ^ (b % 64)) = ((word s q / 2 ^ (b % 64) : Nat) : Int) := by simp
  have hlt : word s q / 2 ^ (b % 64) < 18446744073709551616 := Nat.lt_of_le_of_lt (Nat.div_le_self _ _) (word_lt s q)
  rw [e, show (1 : Int) = ((1 : Nat) : Int) from rfl, bits_and_nat _ _ hlt (by omega), Nat.and_one_is_mod]
  have hb : s.getLsbD b = (word s q).testBit (b % 64) := by rw [word_bit _ _ _ (Nat.mod_lt _ (by omega))]; congr 1; omega
  rw [hb, Nat.testBit_eq_decide_div_mod_eq]
  by_cases h1 : word s q / 2 ^ (b % 64) % 2 = 1
  · simp [h1]
  · have : word s q / 2 ^ (b % 64) % 2 = 0 := by omega
    simp [this]
end Go.Proofs.Ytaanhijjhllckaa
namespace Go.Proofs.Ytaanhijjhllckaa
set_option maxRecDepth 100000
open Go.RowKit

theorem and_parts (x M B k : Nat) (hB : B = 2 ^ k) : x &&& M = (x % B &&& M % B) + B * (x / B &&& M / B) := by
  subst hB
  have h := Nat.mod_add_div (x &&& M) (2 ^ k)
  rw [Nat.and_mod_two_pow, Nat.and_div_two_pow] at h
  exact h.symm

/-- the sum of n digits of b bits -/
def digs (b : Nat) : Nat → Nat → Nat
  | 0, _ => 0
  | n + 1, x => x % 2 ^ b + digs b n (x / 2 ^ b)
/-- the mask of n fields of 2w bits, the lower half of each set -/
def mask (w : Nat) : Nat → Nat
  | 0 => 0
  | n + 1 => (2 ^ w - 1) + 2 ^ (2 * w) * mask w n
/-- neighbours added -/
def halve (w : Nat) : Nat → Nat → Nat
  | 0, _ => 0
  | n + 1, x => (x % 2 ^ w + x / 2 ^ w % 2 ^ w) + 2 ^ (2 * w) * halve w n (x / 2 ^ (2 * w))

theorem two_pow_dbl (w : Nat) : 2 ^ (2 * w) = 2 ^ w * 2 ^ w := by rw [Nat.two_mul, Nat.pow_add]
theorem mod_dbl (x w : Nat) : x % 2 ^ (2 * w) % 2 ^ w = x % 2 ^ w := by
  rw [two_pow_dbl]; exact Nat.mod_mul_right_mod ..
theorem mask_mod (w n : Nat) : mask w (n + 1) % 2 ^ (2 * w) = 2 ^ w - 1 := by
  have h1 : 2 ^ w ≤ 2 ^ (2 * w) := Nat.pow_le_pow_right (by omega) (by omega)
  have h0 := Nat.two_pow_pos w
  simp only [mask, Nat.add_mul_mod_self_left]
  exact Nat.mod_eq_of_lt (by omega)
theorem mask_div (w n : Nat) : mask w (n + 1) / 2 ^ (2 * w) = mask w n := by
  have h1 : 2 ^ w ≤ 2 ^ (2 * w) := Nat.pow_le_pow_right (by omega) (by omega)
  have h0 := Nat.two_pow_pos w
  simp only [mask]
  rw [Nat.add_mul_div_left _ _ (by omega), Nat.div_eq_of_lt (by omega), Nat.zero_add]
theorem and_mask (w n x : Nat) : x &&& mask w (n + 1) = x % 2 ^ w + 2 ^ (2 * w) * (x / 2 ^ (2 * w) &&& mask w n) := by
  rw [and_parts x (mask w (n + 1)) (2 ^ (2 * w)) (2 * w) rfl, mask_mod, mask_div, Nat.and_two_pow_sub_one_eq_mod, mod_dbl]

theorem div_swap (x a b : Nat) : x / a / b = x / b / a := by rw [Nat.div_div_eq_div_mul, Nat.mul_comm, Nat.div_div_eq_div_mul]

theorem halve_eq (w : Nat) : ∀ (n x : Nat), (x / 2 ^ w &&& mask w n) + (x &&& mask w n) = halve w n x
  | 0, x => by simp [mask, halve]
  | n + 1, x => by
    rw [and_mask, and_mask, halve, ← halve_eq w n (x / 2 ^ (2 * w)), div_swap x (2 ^ w), Nat.mul_add]
    omega

theorem halve_digs (w : Nat) (hw : 1 ≤ w) : ∀ (n x : Nat), digs (2 * w) n (halve w n x) = digs w (2 * n) x
  | 0, x => rfl
  | n + 1, x => by
    have h0 := Nat.two_pow_pos w
    have h2 : 2 ^ 1 ≤ 2 ^ w := Nat.pow_le_pow_right (by omega) hw
    have e := two_pow_dbl w
    have a1 := Nat.mod_lt x h0
    have a2 := Nat.mod_lt (x / 2 ^ w) h0
    have a3 : 2 * 2 ^ w ≤ 2 ^ w * 2 ^ w := Nat.mul_le_mul_right _ h2
    have lt : x % 2 ^ w + x / 2 ^ w % 2 ^ w < 2 ^ (2 * w) := by omega
    rw [digs, halve, Nat.add_mul_mod_self_left, Nat.mod_eq_of_lt lt, Nat.add_mul_div_left _ _ (by omega), Nat.div_eq_of_lt lt, Nat.zero_add, halve_digs w hw n]
    show _ = digs w (2 * n + 2) x
    rw [digs, digs, Nat.div_div_eq_div_mul, ← e]
    omega

/-- each digit of b bits is at most c -/
def small (b c : Nat) : Nat → Nat → Prop
  | 0, x => x = 0
  | n + 1, x => x % 2 ^ b ≤ c ∧ small b c n (x / 2 ^ b)
theorem small_of_lt (b : Nat) : ∀ (n x : Nat), x < 2 ^ (b * n) → small b (2 ^ b - 1) n x
  | 0, x, h => by simp at h; exact h
  | n + 1, x, h => by
    have h0 := Nat.two_pow_pos b
    have := Nat.mod_lt x h0
    refine ⟨by omega, small_of_lt b n _ ?_⟩
    rw [Nat.mul_add, Nat.mul_one, Nat.pow_add, Nat.mul_comm] at h
    exact Nat.div_lt_of_lt_mul h
theorem small_halve (w c : Nat) (hw : 1 ≤ w) (hc : c < 2 ^ w) : ∀ (n x : Nat), small w c (2 * n) x → small (2 * w) (2 * c) n (halve w n x)
  | 0, x, _ => rfl
  | n + 1, x, h => by
    obtain ⟨h1, h2, h3⟩ : small w c (2 * n + 2) x := h
    have h0 := Nat.two_pow_pos w
    have h2' : 2 ^ 1 ≤ 2 ^ w := Nat.pow_le_pow_right (by omega) hw
    have e := two_pow_dbl w
    have a3 : 2 * 2 ^ w ≤ 2 ^ w * 2 ^ w := Nat.mul_le_mul_right _ h2'
    have lt : x % 2 ^ w + x / 2 ^ w % 2 ^ w < 2 ^ (2 * w) := by omega
    rw [Nat.div_div_eq_div_mul, ← e] at h3
    refine ⟨?_, ?_⟩
    · rw [halve, Nat.add_mul_mod_self_left, Nat.mod_eq_of_lt lt]; omega
    · rw [halve, Nat.add_mul_div_left _ _ (by omega), Nat.div_eq_of_lt lt, Nat.zero_add]
      exact small_halve w c hw hc n _ h3
theorem halve4 : ∀ (n x : Nat), small 4 4 (2 * n) x → (x / 16 + x) &&& mask 4 n = halve 4 n x
  | 0, x, _ => by simp [mask, halve]
  | n + 1, x, h => by
    obtain ⟨h1, h2, h3⟩ : small 4 4 (2 * n + 2) x := h
    have hd : x / 2 ^ 4 / 2 ^ 4 = x / 256 := by rw [Nat.div_div_eq_div_mul]
    rw [hd] at h3
    have h4 : x / 256 % 16 ≤ 4 := by
      cases n with
      | zero => have : x / 256 = 0 := h3; omega
      | succ n => exact (show small 4 4 (2 * n + 2) (x / 256) from h3).1
    have ih := halve4 n (x / 256) h3
    rw [and_mask, halve]
    have e1 : (x / 16 + x) % 2 ^ 4 = x % 2 ^ 4 + x / 2 ^ 4 % 2 ^ 4 := by simp at h1 h2 ⊢; omega
    have e2 : (x / 16 + x) / 2 ^ (2 * 4) = x / 256 / 16 + x / 256 := by
      simp at h1 h2 ⊢
      obtain ⟨q, hq⟩ : ∃ q, q = x / 256 := ⟨_, rfl⟩
      have ex : x = x % 16 + 16 * (x / 16 % 16) + 256 * q := by omega
      have e16 : x / 16 = x / 16 % 16 + 16 * q := by omega
      rw [← hq] at h4 ⊢
      generalize x / 16 % 16 = u at *
      generalize x % 16 = v at *
      omega
    rw [e1, e2, ih]

/-- the number's ones, as they are counted -/
theorem ones (x : Nat) (hx : x < 18446744073709551616) :
    let x1 := (x / 2 &&& 6148914691236517205) + (x &&& 6148914691236517205)
    let x2 := (x1 / 4 &&& 3689348814741910323) + (x1 &&& 3689348814741910323)
    let x3 := (x2 / 16 + x2) &&& 1085102592571150095
    x1 < 18446744073709551616 ∧ x2 < 18446744073709551616 ∧ x2 / 16 + x2 < 18446744073709551616 ∧ x3 = halve 4 8 (halve 2 16 (halve 1 32 x)) ∧ small 8 8 8 x3 ∧ digs 8 8 x3 = digs 1 64 x := by
  have m0 : mask 1 32 = 6148914691236517205 := by decide
  have m1 : mask 2 16 = 3689348814741910323 := by decide
  have m2 : mask 4 8 = 1085102592571150095 := by decide
  intro x1 x2 x3
  have e1 : x1 = halve 1 32 x := by rw [← halve_eq, m0]
  have e2 : x2 = halve 2 16 x1 := by rw [← halve_eq, m1]
  have s0 : small 1 1 64 x := small_of_lt 1 64 x (by simpa using hx)
  have s1 : small 2 2 32 x1 := by rw [e1]; exact small_halve 1 1 (by omega) (by decide) 32 x s0
  have s2 : small 4 4 16 x2 := by rw [e2]; exact small_halve 2 2 (by omega) (by decide) 16 x1 s1
  have e3 : x3 = halve 4 8 x2 := by rw [← halve4 8 x2 s2, m2]
  have s3 : small 8 8 8 x3 := by rw [e3]; exact small_halve 4 4 (by omega) (by decide) 8 x2 s2
  have b1 : (x / 2 &&& 6148914691236517205) ≤ 6148914691236517205 := Nat.and_le_right
  have b2 : (x &&& 6148914691236517205) ≤ 6148914691236517205 := Nat.and_le_right
  have b3 : (x1 / 4 &&& 3689348814741910323) ≤ 3689348814741910323 := Nat.and_le_right
  have b4 : (x1 &&& 3689348814741910323) ≤ 3689348814741910323 := Nat.and_le_right
  have c1 : x1 ≤ 6148914691236517205 + 6148914691236517205 := Nat.add_le_add b1 b2
  have c2 : x2 ≤ 3689348814741910323 + 3689348814741910323 := Nat.add_le_add b3 b4
  refine ⟨by omega, by omega, by omega, by rw [e3, e2, e1], s3, ?_⟩
  rw [e3, halve_digs 4 (by omega), e2, halve_digs 2 (by omega), e1, halve_digs 1 (by omega)]

/-- eight bytes of at most eight, added up in the lowest -/
theorem ones_end (x : Nat) (h : small 8 8 8 x) : 
    x + x / 256 < 18446744073709551616 ∧ (x + x / 256) + (x + x / 256) / 65536 < 18446744073709551616 ∧
    ((x + x / 256) + (x + x / 256) / 65536) + ((x + x / 256) + (x + x / 256) / 65536) / 4294967296 < 18446744073709551616 ∧
    (((x + x / 256) + (x + x / 256) / 65536) + ((x + x / 256) + (x + x / 256) / 65536) / 4294967296) % 128 = digs 8 8 x := by
  obtain ⟨h0, h1, h2, h3, h4, h5, h6, h7, h8⟩ := h
  have hd : ∀ y, y / 2 ^ 8 = y / 256 := fun _ => rfl
  have hm : ∀ y, y % 2 ^ 8 = y % 256 := fun _ => rfl
  simp only [small] at h8
  simp only [digs, hd, hm] at *
  generalize e1 : x / 256 = y1 at *
  generalize e2 : y1 / 256 = y2 at *
  generalize e3 : y2 / 256 = y3 at *
  generalize e4 : y3 / 256 = y4 at *
  generalize e5 : y4 / 256 = y5 at *
  generalize e6 : y5 / 256 = y6 at *
  generalize e7 : y6 / 256 = y7 at *
  generalize g0 : x % 256 = d0 at *
  generalize g1 : y1 % 256 = d1 at *
  generalize g2 : y2 % 256 = d2 at *
  generalize g3 : y3 % 256 = d3 at *
  generalize g4 : y4 % 256 = d4 at *
  generalize g5 : y5 % 256 = d5 at *
  generalize g6 : y6 % 256 = d6 at *
  generalize g7 : y7 % 256 = d7 at *
  have k7 : y7 = d7 := by omega
  have k6 : y6 = d6 + 256 * d7 := by omega
  have k5 : y5 = d5 + 256 * y6 := by omega
  have k4 : y4 = d4 + 256 * y5 := by omega
  have k3 : y3 = d3 + 256 * y4 := by omega
  have k2 : y2 = d2 + 256 * y3 := by omega
  have k1 : y1 = d1 + 256 * y2 := by omega
  have k0 : x = d0 + 256 * y1 := by omega
  clear e1 e2 e3 e4 e5 e6 e7 g0 g1 g2 g3 g4 g5 g6 g7 h8
  have a0 : (x + y1) / 65536 = (d2 + d3) + 256 * (d3 + d4) + 65536 * (d4 + d5) + 16777216 * (d5 + d6) + 4294967296 * (d6 + d7) + 1099511627776 * d7 := by omega
  rw [a0]
  have b0 : (x + y1 + ((d2 + d3) + 256 * (d3 + d4) + 65536 * (d4 + d5) + 16777216 * (d5 + d6) + 4294967296 * (d6 + d7) + 1099511627776 * d7)) / 4294967296 =
    (d4 + d5 + d6 + d7) + 256 * (d5 + d6 + d7) + 65536 * (d6 + d7) + 16777216 * d7 := by omega
  rw [b0]
  refine ⟨by omega, by omega, by omega, by omega⟩

theorem filter_range_succ (p : Nat → Bool) (n : Nat) : ((List.range (n + 1)).filter p).length = (if p 0 then 1 else 0) + ((List.range n).filter (fun j => p (j + 1))).length := by
  rw [List.range_succ_eq_map, List.filter_cons, List.filter_map]
  split <;> simp [Function.comp_def, Nat.add_comm]
theorem digs_ones : ∀ (n x : Nat), digs 1 n x = ((List.range n).filter x.testBit).length
  | 0, _ => rfl
  | n + 1, x => by
    rw [filter_range_succ, digs, digs_ones n]
    congr 1
    · rw [Nat.testBit_zero]; have : x % 2 ^ 1 = x % 2 := by rw [Nat.pow_one]
      rw [this]; by_cases h : x % 2 = 1
      · simp [h]
      · simp [h]; omega
    · simp [Nat.testBit_succ]
/-! the same sums as the walk writes them -/
theorem step_and (x k c : Nat) (hc : c < 18446744073709551616) (hx : x < 18446744073709551616) (h : (x / k &&& c) + (x &&& c) < 18446744073709551616) :
    IntKind.u64.wrap (bits .and .u64 ((x : Int) / (k : Int)) (c : Int) + bits .and .u64 (x : Int) (c : Int)) = (((x / k &&& c) + (x &&& c) : Nat) : Int) := by
  have e : (x : Int) / (k : Int) = ((x / k : Nat) : Int) := by simp
  rw [e, bits_and_nat _ _ (Nat.lt_of_le_of_lt (Nat.div_le_self _ _) hx) hc, bits_and_nat _ _ hx hc, IntKind.wrap_u64]
  omega
theorem step_add (x k : Nat) (h : x + x / k < 18446744073709551616) : IntKind.u64.wrap ((x : Int) + (x : Int) / (k : Int)) = ((x + x / k : Nat) : Int) := by
  have e : (x : Int) / (k : Int) = ((x / k : Nat) : Int) := by simp
  rw [e, IntKind.wrap_u64]
  generalize x / k = q at *
  omega
theorem step_add' (x k : Nat) (h : x / k + x < 18446744073709551616) : IntKind.u64.wrap ((x : Int) / (k : Int) + (x : Int)) = ((x / k + x : Nat) : Int) := by
  have e : (x : Int) / (k : Int) = ((x / k : Nat) : Int) := by simp
  rw [e, IntKind.wrap_u64]
  generalize x / k = q at *
  omega
theorem wrap_i64_of (n : Int) (h0 : -9223372036854775808 ≤ n) (h : n ≤ 9223372036854775807) : IntKind.i64.wrap n = n := by
  simp only [IntKind.wrap, IntKind.bits, IntKind.signed]
  simp
  omega
theorem step_end (x : Nat) (h : x < 18446744073709551616) : bits .and .i64 (wrap64 (x : Int)) 127 = ((x % 128 : Nat) : Int) := by
  rw [show wrap64 (x : Int) = IntKind.i64.wrap (x : Int) from by rw [IntKind.wrap_i64]; simp [wrap64]; try omega]
  have e : BitVec.ofInt 64 (IntKind.i64.wrap (x : Int)) = BitVec.ofNat 64 x := by
    apply BitVec.eq_of_toNat_eq
    rw [BitVec.toNat_ofInt, BitVec.toNat_ofNat]
    simp only [IntKind.wrap, IntKind.bits, IntKind.signed]
    simp
    omega
  show IntKind.i64.wrap ((BitVec.ofInt 64 (IntKind.i64.wrap (x : Int)) &&& BitVec.ofInt 64 127).toNat : Int) = _
  rw [e, BitVec.toNat_and, BitVec.toNat_ofNat, Nat.mod_eq_of_lt (by omega)]
  have : (BitVec.ofInt 64 127).toNat = 2 ^ 7 - 1 := by decide
  rw [this, Nat.and_two_pow_sub_one_eq_mod]
  exact wrap_i64_of _ (by omega) (by omega)
end Go.Proofs.Ytaanhijjhllckaa
namespace Go.Proofs.Ytaanhijjhllckaa
set_option maxRecDepth 100000
open Go.RowKit

/-- the places of a word's ones, rising -/
def bitsOf (x : Nat) : List Nat := (List.range 64).filter x.testBit
/-- a set's elements, rising -/
def elems (s : BitVec 256) : List Nat := (List.range 256).filter s.getLsbD
/-- the elements in word i -/
def wordElems (s : BitVec 256) (i : Nat) : List Nat := (bitsOf (word s i)).map (64 * i + ·)

theorem filter_cons_range (n k : Nat) (p q : Nat → Bool) (hk : k < n) (h1 : ∀ j, j < k → p j = false) (h2 : ∀ j, j ≤ k → q j = false) (hp : p k = true) (h3 : ∀ j, k < j → j < n → p j = q j) :
    (List.range n).filter p = k :: (List.range n).filter q := by
  obtain ⟨r, rfl⟩ : ∃ r, n = k + (1 + r) := ⟨n - k - 1, by omega⟩
  rw [List.range_add, List.filter_append, List.filter_append, List.range_add, List.map_append, List.filter_append, List.filter_append]
  have e1 : (List.range k).filter p = [] := by rw [List.filter_eq_nil_iff]; intro j hj; rw [List.mem_range] at hj; simp [h1 j hj]
  have e2 : (List.range k).filter q = [] := by rw [List.filter_eq_nil_iff]; intro j hj; rw [List.mem_range] at hj; simp [h2 j (by omega)]
  rw [e1, e2]
  have e3 : ((List.range 1).map (k + ·)).filter p = [k] := by simp [hp]
  have e4 : ((List.range 1).map (k + ·)).filter q = [] := by simp [h2 k (by omega)]
  rw [e3, e4]
  simp only [List.nil_append, List.singleton_append, List.cons.injEq, true_and]
  apply List.filter_congr
  intro j hj
  simp only [List.mem_map, List.mem_range] at hj
  obtain ⟨a, ⟨b, hb, rfl⟩, rfl⟩ := hj
  exact h3 _ (by omega) (by omega)

theorem low_parts (x : Nat) (h0 : x ≠ 0) (hx : x < 2 ^ 64) : ∃ m, x = 2 ^ Lib.ctz 64 x * (2 * m + 1) ∧ Lib.ctz 64 x < 64 := by
  have := Lib.ctzFrom_spec 64 x (by omega) hx
  simpa [Lib.ctz, h0] using this
theorem drop_low (k m : Nat) : (2 ^ k * (2 * m + 1)) &&& (2 ^ k * (2 * m + 1) - 1) = 2 ^ (k + 1) * m := by
  have hp := Nat.two_pow_pos k
  have e : 2 ^ (k + 1) = 2 * 2 ^ k := by rw [Nat.pow_succ, Nat.mul_comm]
  have e1 : 2 ^ k * (2 * m + 1) = 2 ^ k + 2 ^ (k + 1) * m := by rw [e]; grind
  have e2 : 2 ^ k * (2 * m + 1) - 1 = (2 ^ k - 1) + 2 ^ (k + 1) * m := by rw [e1]; omega
  rw [e2, e1, and_parts _ _ (2 ^ (k + 1)) (k + 1) rfl]
  rw [Nat.add_mul_mod_self_left, Nat.add_mul_mod_self_left, Nat.add_mul_div_left _ _ (by omega), Nat.add_mul_div_left _ _ (by omega)]
  rw [Nat.mod_eq_of_lt (by omega : 2 ^ k < 2 ^ (k + 1)), Nat.mod_eq_of_lt (by omega : 2 ^ k - 1 < 2 ^ (k + 1)), Nat.div_eq_of_lt (by omega : 2 ^ k < 2 ^ (k + 1)), Nat.div_eq_of_lt (by omega : 2 ^ k - 1 < 2 ^ (k + 1))]
  rw [Nat.and_two_pow_sub_one_eq_mod, Nat.mod_self]
  simp
theorem bitsOf_cons (x : Nat) (h0 : x ≠ 0) (hx : x < 18446744073709551616) : bitsOf x = Lib.ctz 64 x :: bitsOf (x &&& (x - 1)) := by
  obtain ⟨m, e, hk⟩ := low_parts x h0 hx
  generalize Lib.ctz 64 x = k at *
  have hd : x &&& (x - 1) = 2 ^ (k + 1) * m := by rw [e, drop_low]
  rw [hd]
  have tx : ∀ j, x.testBit j = (decide (j ≥ k) && (2 * m + 1).testBit (j - k)) := fun j => by rw [e, Nat.testBit_two_pow_mul]
  have ty : ∀ j, (2 ^ (k + 1) * m).testBit j = (decide (j ≥ k + 1) && m.testBit (j - (k + 1))) := fun j => Nat.testBit_two_pow_mul
  unfold bitsOf
  refine filter_cons_range 64 k _ _ hk (fun j hj => ?_) (fun j hj => ?_) ?_ (fun j hj _ => ?_)
  · rw [tx, decide_eq_false (by omega), Bool.false_and]
  · rw [ty, decide_eq_false (by omega), Bool.false_and]
  · rw [tx, decide_eq_true (by omega), Nat.sub_self, Nat.testBit_zero]; simp
  · rw [tx, ty, decide_eq_true (by omega), decide_eq_true (by omega), show j - k = (j - (k + 1)) + 1 from by omega, Nat.testBit_succ, show (2 * m + 1) / 2 = m from by omega]
theorem bitsOf_zero : bitsOf 0 = [] := by
  unfold bitsOf; rw [List.filter_eq_nil_iff]; intro j _; simp
theorem drop_lt (x : Nat) (h0 : x ≠ 0) : x &&& (x - 1) < x := Nat.lt_of_le_of_lt Nat.and_le_right (by omega)
theorem bitsOf_length (x : Nat) : (bitsOf x).length = digs 1 64 x := (digs_ones 64 x).symm
theorem bitsOf_length_le (x : Nat) : (bitsOf x).length ≤ 64 := by
  have := List.length_filter_le x.testBit (List.range 64)
  unfold bitsOf; simpa using this

theorem range256 : List.range 256 = (List.range 64).map (64 * 0 + ·) ++ ((List.range 64).map (64 * 1 + ·) ++ ((List.range 64).map (64 * 2 + ·) ++ (List.range 64).map (64 * 3 + ·))) := by decide +kernel
theorem filter_word (s : BitVec 256) (i : Nat) : ((List.range 64).map (64 * i + ·)).filter s.getLsbD = wordElems s i := by
  rw [wordElems, bitsOf, List.filter_map]
  congr 1
  apply List.filter_congr
  intro j hj
  rw [List.mem_range] at hj
  rw [word_bit _ _ _ hj]
  rfl
theorem elems_words (s : BitVec 256) : elems s = wordElems s 0 ++ (wordElems s 1 ++ (wordElems s 2 ++ wordElems s 3)) := by
  unfold elems
  rw [range256, List.filter_append, List.filter_append, List.filter_append, filter_word, filter_word, filter_word, filter_word]
theorem wordElems_length (s : BitVec 256) (i : Nat) : (wordElems s i).length = digs 1 64 (word s i) := by rw [wordElems, List.length_map, bitsOf_length]
theorem elems_length (s : BitVec 256) : (elems s).length = digs 1 64 (word s 0) + digs 1 64 (word s 1) + digs 1 64 (word s 2) + digs 1 64 (word s 3) := by
  rw [elems_words, List.length_append, List.length_append, List.length_append, wordElems_length, wordElems_length, wordElems_length, wordElems_length]
  omega
theorem elems_length_le (s : BitVec 256) : (elems s).length ≤ 256 := by
  have := List.length_filter_le s.getLsbD (List.range 256)
  unfold elems; simpa using this
theorem digs_le (x : Nat) : digs 1 64 x ≤ 64 := by rw [← bitsOf_length]; exact bitsOf_length_le x
theorem mem_elems (s : BitVec 256) (b : Nat) : b ∈ elems s ↔ b < 256 ∧ s.getLsbD b = true := by
  unfold elems; rw [List.mem_filter, List.mem_range]
/-- the elements from word i on -/
def wordsFrom (s : BitVec 256) (i : Nat) : List Nat := ((List.range (4 - i)).map (fun j => wordElems s (i + j))).flatten
theorem wordsFrom_zero (s : BitVec 256) : wordsFrom s 0 = elems s := by
  rw [elems_words]; simp [wordsFrom, List.range_succ]
theorem wordsFrom_succ (s : BitVec 256) (i : Nat) (h : i < 4) : wordsFrom s i = wordElems s i ++ wordsFrom s (i + 1) := by
  unfold wordsFrom
  rw [show 4 - i = (4 - (i + 1)) + 1 from by omega, List.range_succ_eq_map, List.map_cons, List.flatten_cons, List.map_map]
  congr 2
  apply List.map_congr_left
  intro j _
  simp [Nat.add_assoc, Nat.add_comm 1]
theorem wordsFrom_four (s : BitVec 256) : wordsFrom s 4 = [] := rfl
end Go.Proofs.Ytaanhijjhllckaa
namespace Go.Proofs.Ytaanhijjhllckaa
set_option maxRecDepth 100000
open Go.RowKit
theorem bcell {W w1 : World} (hb : Below W.heap.size W w1) : (∀ b o, b < W.heap.size → w1.cell? ⟨b, o, none⟩ = W.cell? ⟨b, o, none⟩) ∧ (∀ b o, b < W.heap.size → w1.frozen? ⟨b, o, none⟩ = W.frozen? ⟨b, o, none⟩) :=
  ⟨fun b o h => hb.cell (p := ⟨b, o, none⟩) h, fun b o h => hb.frozen (p := ⟨b, o, none⟩) h⟩
set_option maxHeartbeats 1000000 in
theorem ones_walk (x x1 x2 y2 x3 x4 x5 x6 d : Nat) (w : World)
    (k1 : IntKind.u64.wrap (bits .and .u64 ((x : Int) / 2) 6148914691236517205 + bits .and .u64 (x : Int) 6148914691236517205) = (x1 : Int))
    (k2 : IntKind.u64.wrap (bits .and .u64 ((x1 : Int) / 4) 3689348814741910323 + bits .and .u64 (x1 : Int) 3689348814741910323) = (x2 : Int))
    (k3 : IntKind.u64.wrap ((x2 : Int) / 16 + (x2 : Int)) = (y2 : Int))
    (k3' : bits .and .u64 (y2 : Int) 1085102592571150095 = (x3 : Int))
    (k4 : IntKind.u64.wrap ((x3 : Int) + (x3 : Int) / 256) = (x4 : Int))
    (k5 : IntKind.u64.wrap ((x4 : Int) + (x4 : Int) / 65536) = (x5 : Int))
    (k6 : IntKind.u64.wrap ((x5 : Int) + (x5 : Int) / 4294967296) = (x6 : Int))
    (k7 : bits .and .i64 (wrap64 (x6 : Int)) 127 = (d : Int)) :
    Calls Try.prog 36 #[.int .u64 x] w fun e w' => e = .returned (.int .i64 d) ∧ w = w' := by
  go_enter Try.func36, Try.ntmps36
  go_wp2
  go_ret
  exact ⟨by rw [← k7]; rfl, rfl⟩
theorem ones_any (x : Nat) (hx : x < 18446744073709551616) (w : World) :
    Calls Try.prog 36 #[.int .u64 x] w fun e w' => e = .returned (.int .i64 (digs 1 64 x)) ∧ w = w' := by
  obtain ⟨h1, h2, h3, _, h5, h6⟩ := ones x hx
  obtain ⟨h7, h8, h9, h10⟩ := ones_end _ h5
  rw [h6] at h10
  refine ones_walk x _ _ _ _ _ _ _ _ w (step_and x 2 _ (by decide) hx h1) (step_and _ 4 _ (by decide) h1 h2) (step_add' _ 16 h3) (bits_and_nat _ _ h3 (by decide)) (step_add _ 256 h7) (step_add _ 65536 h8) (step_add _ 4294967296 h9) ?_
  rw [step_end _ h9, h10]
end Go.Proofs.Ytaanhijjhllckaa
namespace Go.Proofs.Ytaanhijjhllckaa
set_option maxRecDepth 100000
open Go.RowKit

theorem ret_int {k : IntKind} {a b : Int} (h : a = b) : Ending.returned (.int k a) = .returned (.int k b) := by rw [h]
theorem ret_two {k : IntKind} {a b : Int} {c : Bool} (h : a = b) : Ending.returned (.tuple #[.int k a, .bool c]) = .returned (.tuple #[.int k b, .bool c]) := by rw [h]
theorem idx0 (x0 x1 x2 x3 : Value) (w : World) : (Instr.index 24 (.agg #[x0, x1, x2, x3]) (.int .i64 0)).run Try.prog w = .ok x0 w := by kernel_rfl
theorem idx1 (x0 x1 x2 x3 : Value) (w : World) : (Instr.index 24 (.agg #[x0, x1, x2, x3]) (.int .i64 1)).run Try.prog w = .ok x1 w := by kernel_rfl
theorem idx2 (x0 x1 x2 x3 : Value) (w : World) : (Instr.index 24 (.agg #[x0, x1, x2, x3]) (.int .i64 2)).run Try.prog w = .ok x2 w := by kernel_rfl
theorem idx3 (x0 x1 x2 x3 : Value) (w : World) : (Instr.index 24 (.agg #[x0, x1, x2, x3]) (.int .i64 3)).run Try.prog w = .ok x3 w := by kernel_rfl
set_option maxHeartbeats 1000000 in
theorem len_any (s : BitVec 256) (w : World) :
    Calls Try.prog 30 #[SV s] w fun e w' => e = .returned (.int .i64 (elems s).length) ∧ Below w.heap.size w w' := by
  have d0 := digs_le (word s 0)
  have d1 := digs_le (word s 1)
  have d2 := digs_le (word s 2)
  have d3 := digs_le (word s 3)
  have hl := Lib.hid (elems_length s)
  have i0 := idx0
  have i1 := idx1
  have i2 := idx2
  have i3 := idx3
  go_enter Try.func30, Try.ntmps30
  go_wp2
  refine wp_loop_rounds 5 ?_
  iterate 4 (rw [rounds_succ]; go_wp2_with (go_at_call 36; refine (ones_any _ (word_lt _ _) _).mono ?_; rintro e w' ⟨rfl, rfl⟩))
  rw [rounds_succ]
  go_wp2
  go_ret
  exact ⟨ret_int (by rw [hl.out]; omega), (Below.refl _ _).alloc (Nat.le_refl _) _⟩
end Go.Proofs.Ytaanhijjhllckaa
namespace Go.Proofs.Ytaanhijjhllckaa
set_option maxRecDepth 100000
open Go.RowKit

/-- a byte as the program holds it -/
def u8v (n : Nat) : Value := .int .u8 (n : Int)
/-- the call returns a new list of bytes -/
def ByteRow (w : World) (l : List Nat) (e : Ending) (w' : World) : Prop :=
  ∃ v, e = .returned v ∧ w'.ownsRow w.heap.size 5 1 v l.length (l.map u8v) ∧ Below w.heap.size w w'
theorem owns_form {w : World} {base : Nat} {e : TypeId} {size : Nat} {v : Value} {n : Nat} {xs : List Value} (h : w.ownsRow base e size v n xs) : ∃ a cap, v = .slice a n cap := by
  obtain ⟨_, ⟨rfl, rfl⟩ | ⟨g, cap, _, rfl, _⟩⟩ := h
  · exact ⟨_, _, rfl⟩
  · exact ⟨_, _, rfl⟩
theorem owns_mono {w : World} {base base' : Nat} {e : TypeId} {size : Nat} {v : Value} {n : Nat} {xs : List Value} (h : w.ownsRow base e size v n xs) (hb : base' ≤ base) : w.ownsRow base' e size v n xs := by
  obtain ⟨h1, h2⟩ := h
  refine ⟨h1, ?_⟩
  rcases h2 with h | ⟨g, c, cur, hv, hg, hr⟩
  · exact .inl h
  · exact .inr ⟨g, c, cur, hv, Nat.le_trans hb hg, hr⟩
theorem owns_below {w w' : World} {base : Nat} {e : TypeId} {size : Nat} {v : Value} {n : Nat} {xs : List Value} (h : w.ownsRow base e size v n xs) (hb : Below w.heap.size w w') : w'.ownsRow base e size v n xs := by
  obtain ⟨h1, h2 | ⟨g, cap, cur, hv, hg, hblk, hr⟩⟩ := h
  · exact ⟨h1, .inl h2⟩
  · exact ⟨h1, .inr ⟨g, cap, cur, hv, hg, by rw [hb.block g (lt_of_block hblk)]; exact hblk, hr⟩⟩
theorem info_u8 : (Try.prog.info? 5).map (fun i => (i.zero, i.size, i.bytes)) = some (some (.int .u8 0), 1, 1) := by kernel_rfl
theorem idx_any (s : BitVec 256) (k : Nat) (hk : k < 4) (w : World) : (Instr.index 24 (SV s) (.int .i64 k)).run Try.prog w = .ok (.int .u64 (word s k)) w := by
  have h : k = 0 ∨ k = 1 ∨ k = 2 ∨ k = 3 := by omega
  rcases h with rfl | rfl | rfl | rfl
  · exact idx0 _ _ _ _ w
  · exact idx1 _ _ _ _ w
  · exact idx2 _ _ _ _ w
  · exact idx3 _ _ _ _ w
end Go.Proofs.Ytaanhijjhllckaa
namespace Go.Proofs.Ytaanhijjhllckaa
set_option maxRecDepth 100000
open Go.RowKit

/-- the set of the listed bytes -/
def setOf (l : List Nat) : BitVec 256 := l.foldl (fun s x => s ||| BitVec.twoPow 256 x) 0
theorem setOf_snoc (l : List Nat) (x : Nat) : setOf (l ++ [x]) = setOf l ||| BitVec.twoPow 256 x := by simp [setOf]
theorem setOf_bit (l : List Nat) (b : Nat) (hb : b < 256) : (setOf l).getLsbD b = decide (b ∈ l) := by
  have h : ∀ (l : List Nat) (s : BitVec 256), (l.foldl (fun s x => s ||| BitVec.twoPow 256 x) s).getLsbD b = (s.getLsbD b || decide (b ∈ l)) := by
    intro l
    induction l with
    | nil => intro s; simp
    | cons x l ih =>
      intro s
      rw [List.foldl_cons, ih, BitVec.getLsbD_or, BitVec.getLsbD_twoPow, Bool.or_assoc]
      congr 1
      rw [Bool.eq_iff_iff]
      simp only [Bool.or_eq_true, Bool.and_eq_true, decide_eq_true_eq, List.mem_cons]
      constructor
      · rintro (⟨_, h⟩ | h)
        · exact Or.inl h.symm
        · exact Or.inr h
      · rintro (h | h)
        · exact Or.inl ⟨by omega, h.symm⟩
        · exact Or.inr h
  have := h l 0
  simpa [setOf] using this
/-- block b holds the set s -/
def SetAt (w : World) (b : Nat) (s : BitVec 256) : Prop :=
  w.heap[b]? = some (.cells #[.int .u64 (word s 0), .int .u64 (word s 1), .int .u64 (word s 2), .int .u64 (word s 3)] 24 (0, 0))
theorem SetAt.cell {w : World} {b : Nat} {s : BitVec 256} (h : SetAt w b s) (q : Nat) (hq : q < 4) : w.cell? ⟨b, q, none⟩ = some (.int .u64 (word s q)) := by
  unfold SetAt at h
  have h4 : q = 0 ∨ q = 1 ∨ q = 2 ∨ q = 3 := by omega
  rcases h4 with rfl | rfl | rfl | rfl <;> simp [World.cell?, h]
theorem SetAt.free {w : World} {b : Nat} {s : BitVec 256} (h : SetAt w b s) (q : Nat) : w.frozen? ⟨b, q, none⟩ = false := by
  unfold SetAt at h
  simp [World.frozen?, h]
theorem word_twoPow (x : Nat) (hx : x < 256) (i : Nat) (_ : i < 4) : word (BitVec.twoPow 256 x) i = if i = x / 64 then 2 ^ (x % 64) else 0 := by
  apply Nat.eq_of_testBit_eq
  intro j
  by_cases hj : j < 64
  · rw [word_bit _ _ _ hj, BitVec.getLsbD_twoPow]
    split
    · rw [Nat.testBit_two_pow, Bool.eq_iff_iff]; simp; omega
    · simp; omega
  · have h1 : (word (BitVec.twoPow 256 x) i).testBit j = false := Nat.testBit_lt_two_pow (Nat.lt_of_lt_of_le (word_lt _ _) (Nat.pow_le_pow_right (n := 2) (by decide) (by omega : 64 ≤ j)))
    rw [h1]
    split
    · rw [Nat.testBit_two_pow]; simp; omega
    · simp
theorem word_or_nat (s t : BitVec 256) (i : Nat) : word (s ||| t) i = word s i ||| word t i := by
  have h := word_or s t i
  rw [bits_or_nat _ _ (word_lt s i) (word_lt t i)] at h
  exact (Int.ofNat.inj h).symm
theorem SetAt.add {w : World} {b : Nat} {s : BitVec 256} (h : SetAt w b s) (x : Nat) (hx : x < 256) (v : Int) (hv : v = ((word s (x / 64) ||| 2 ^ (x % 64) : Nat) : Int)) :
    SetAt (w.setCell ⟨b, x / 64, none⟩ (.int .u64 v)) b (s ||| BitVec.twoPow 256 x) := by
  unfold SetAt at *
  have h4 : x / 64 = 0 ∨ x / 64 = 1 ∨ x / 64 = 2 ∨ x / 64 = 3 := by omega
  subst hv
  simp only [World.setCell, Array.getElem?_modify, h, word_or_nat, word_twoPow x hx _ (show 0 < 4 by decide), word_twoPow x hx _ (show 1 < 4 by decide), word_twoPow x hx _ (show 2 < 4 by decide), word_twoPow x hx _ (show 3 < 4 by decide)]
  rcases h4 with h4 | h4 | h4 | h4 <;> rw [h4] <;> simp
/-- a list of bytes that was handed in -/
def BytesAt (w : World) (a : Option Addr) (n cap : Nat) (l : List Nat) : Prop :=
  n = l.length ∧ (∀ x ∈ l, x < 256) ∧ n ≤ maxLen ∧ (n = 0 ∨ ∃ b off, a = some ⟨b, off, none⟩ ∧ n ≤ cap ∧ b < w.heap.size ∧ ∀ j, j < n → w.cell? ⟨b, off + j, none⟩ = some (u8v (l.getD j 0)))
theorem word_zero (i : Nat) : word 0 i = 0 := by
  unfold word
  simp
theorem setAt_start (w : World) (O : Obj) (hO : O = .cells #[.int .u64 0, .int .u64 0, .int .u64 0, .int .u64 0] 24 (0, 0)) : SetAt (w.alloc O) w.heap.size 0 := by
  subst hO
  unfold SetAt World.alloc
  rw [word_zero, word_zero, word_zero, word_zero]
  simp
theorem setAt_other {w : World} {b : Nat} {s : BitVec 256} (h : SetAt w b s) (a : Addr) (u : Value) (ha : a.block ≠ b) : SetAt (w.setCell a u) b s := by
  unfold SetAt at *
  simp only [World.setCell, Array.getElem?_modify, if_neg ha, h]
theorem setAt_drew {w : World} {b : Nat} {s : BitVec 256} (h : SetAt w b s) : SetAt w.drew b s := h
theorem setAt_alloc {w : World} {b : Nat} {s : BitVec 256} (h : SetAt w b s) (o : Obj) : SetAt (w.alloc o) b s := by
  unfold SetAt World.alloc at *
  have : b < w.heap.size := lt_of_block h
  show (w.heap.push o)[b]? = _
  rw [Array.getElem?_push, if_neg (by omega)]
  exact h
theorem setAt_lt {w : World} {b : Nat} {s : BitVec 256} (h : SetAt w b s) : b < w.heap.size := lt_of_block h
theorem setAt_below {B : Nat} {w w' : World} {b : Nat} {s : BitVec 256} (h : SetAt w b s) (hb : Below B w w') (hlt : b < B) : SetAt w' b s := by
  unfold SetAt at *
  rw [hb.block b hlt]; exact h
theorem setAt_made (w : World) (s : BitVec 256) : SetAt (w.alloc (.cells #[.int .u64 (word s 0), .int .u64 (word s 1), .int .u64 (word s 2), .int .u64 (word s 3)] 24)) w.heap.size s := by
  unfold SetAt World.alloc
  simp
/-- what the builders' loops hold: the result's block is untouched, the next one holds what was gathered -/
def Gather (w wr : World) (s : BitVec 256) : Prop := SetAt wr w.heap.size 0 ∧ SetAt wr (w.heap.size + 1) s ∧ Below w.heap.size w wr
theorem gather_start (w : World) (O : Obj) (hO : O = .cells #[.int .u64 0, .int .u64 0, .int .u64 0, .int .u64 0] 24 (0, 0)) : Gather w ((w.alloc O).alloc O) 0 :=
  ⟨setAt_alloc (setAt_start w O hO) _, by simpa using setAt_start (w.alloc O) O hO, ((Below.refl _ _).alloc (Nat.le_refl _) _).alloc (by simp) _⟩
theorem shl_or (a x : Nat) (ha : a < 18446744073709551616) : bits BinOp.or IntKind.u64 (a : Int) (IntKind.u64.wrap (2 ^ (x % 64))) = ((a ||| 2 ^ (x % 64) : Nat) : Int) := by
  have hlt : 2 ^ (x % 64) < 18446744073709551616 := Nat.pow_lt_pow_right (a := 2) (m := x % 64) (n := 64) (by decide) (Nat.mod_lt _ (by decide))
  have e : IntKind.u64.wrap (2 ^ (x % 64)) = ((2 ^ (x % 64) : Nat) : Int) := by
    rw [IntKind.wrap_u64]
    have : ((2 : Int) ^ (x % 64)) = ((2 ^ (x % 64) : Nat) : Int) := by simp
    rw [this]
    generalize 2 ^ (x % 64) = p at *
    omega
  rw [e, bits_or_nat _ _ ha hlt]
theorem gather_step {w wr : World} {s : BitVec 256} (h : Gather w wr s) (x : Nat) (hx : x < 256) :
    Gather w (wr.setCell ⟨w.heap.size + 1, x / 64, none⟩ (.int .u64 (bits BinOp.or IntKind.u64 (word s (x / 64) : Int) (IntKind.u64.wrap (2 ^ (x % 64)))))) (s ||| BitVec.twoPow 256 x) :=
  ⟨setAt_other h.1 _ _ (by simp), h.2.1.add x hx _ (shl_or _ _ (word_lt _ _)), h.2.2.setCell (by simp) _⟩
theorem gather_drew {w wr : World} {s : BitVec 256} (h : Gather w wr s) : Gather w wr.drew s := ⟨h.1, h.2.1, h.2.2.drew⟩
set_option maxHeartbeats 1000000 in
theorem of_any (a : Option Addr) (n cap : Nat) (l : List Nat) (w : World) (hl : BytesAt w a n cap l) :
    Calls Try.prog 27 #[.slice a n cap] w fun e w' => e = .returned (SV (setOf l)) ∧ Below w.heap.size w w' := by
  obtain ⟨hn, hlt, hmax, hcells⟩ := hl
  have Hn := Lib.hid hn
  clear hn
  unfold maxLen at hmax
  go_enter Try.func27, Try.ntmps27
  go_wp2
  go_loopw [8] (fun i wr => ∃ k : Nat, k ≤ n ∧ i = .int .i64 k ∧ Gather w wr (setOf (l.take k))) (fun i _ => n - (intOf i).toNat)
  case atStart => exact ⟨0, by omega, rfl, gather_start w _ rfl⟩
  case round =>
    obtain ⟨k, hk, rfl, hg⟩ := hrel
    by_cases hkn : k < n
    · rcases hcells with h0 | ⟨b, off, rfl, hcap, hbw, hcells⟩
      · omega
      · have hd : decide ((k : Int) < n) = true := by simp; omega
        have hkl : k < l.length := by rw [← Hn.out]; exact hkn
        obtain ⟨x, hx⟩ : ∃ x, x = l.getD k 0 := ⟨_, rfl⟩
        have hxl : x = l[k] := by rw [hx, List.getD_eq_getElem?_getD, List.getElem?_eq_getElem hkl]; rfl
        have hcell : wr.cell? ⟨b, off + k, none⟩ = some (.int .u8 (x : Int)) := by rw [hg.2.2.cell (p := ⟨b, off + k, none⟩) hbw, hcells k hkn, hx]; rfl
        have hx256 : x < 256 := by rw [hxl]; exact hlt _ (List.getElem_mem _)
        have hq : x / 64 < 4 := by omega
        have hsc := hg.2.1.cell (x / 64) hq
        have hsf := hg.2.1.free (x / 64)
        have hfin : setOf (l.take (k + 1)) = setOf (l.take k) ||| BitVec.twoPow 256 x := by
          rw [List.take_succ_eq_append_getElem hkl, setOf_snoc, hxl]
        have hst := gather_step hg x hx256
        rw [← hfin] at hst
        clear hcells hx hxl hfin hkl
        go_wp2
        go_roundw
        case rel => exact ⟨k + 1, by omega, by go_num, hst⟩
        case measure => simp [intOf]; omega
    · obtain rfl : k = n := by omega
      have hd : decide ((k : Int) < k) = false := by simp
      have c0 := hg.2.1.cell 0 (by decide)
      have c1 := hg.2.1.cell 1 (by decide)
      have c2 := hg.2.1.cell 2 (by decide)
      have c3 := hg.2.1.cell 3 (by decide)
      have r0 := hg.1.cell 0 (by decide)
      have r1 := hg.1.cell 1 (by decide)
      have r2 := hg.1.cell 2 (by decide)
      have r3 := hg.1.cell 3 (by decide)
      have q0 := hg.1.free 0
      have q1 := hg.1.free 1
      have q2 := hg.1.free 2
      have q3 := hg.1.free 3
      have hb := hg.2.2
      have hz := setAt_lt hg.2.1
      have ht : l.take k = l := List.take_of_length_le (by rw [Hn.out]; exact Nat.le_refl _)
      rw [ht] at c0 c1 c2 c3
      clear hg hcells ht
      go_wp2
      refine bodyPost_ret (v := SV (setOf l)) (by simp [results, Try.results27, go_sem, r0, r1, r2, r3]) rfl ⟨rfl, ?_⟩
      repeat (first | exact hb | refine Below.drew ?_ | refine Below.setCell ?_ (by simp) _)
/-- the bytes from lo to hi -/
def upTo (lo hi : Nat) : List Nat := (List.range (hi + 1 - lo)).map (lo + ·)
theorem upTo_mem (lo hi b : Nat) : b ∈ upTo lo hi ↔ lo ≤ b ∧ b ≤ hi := by
  simp only [upTo, List.mem_map, List.mem_range]
  constructor
  · rintro ⟨a, h, rfl⟩; omega
  · intro h; exact ⟨b - lo, by omega, by omega⟩
end Go.Proofs.Ytaanhijjhllckaa
