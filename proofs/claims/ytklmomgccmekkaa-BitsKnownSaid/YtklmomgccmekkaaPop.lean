/- The plain mathematics of counting bits by halves: the sum of a number's binary digits, as math/bits.OnesCount64 reckons it; and a set's elements in order, word by word. -/
import Derived.Test.YtklmomgccmekkaaSetMath
namespace Go.Proofs.Ytklmomgccmekkaa
set_option maxRecDepth 100000
open Go.RowKit

theorem and_parts (x M B k : Nat) (hB : B = 2 ^ k) : x &&& M = (x % B &&& M % B) + B * (x / B &&& M / B) := by
  subst hB
  have h := Nat.mod_add_div (x &&& M) (2 ^ k)
  rw [Nat.and_mod_two_pow, Nat.and_div_two_pow] at h
  exact h.symm

/-- the sum of n digits of b bits -/
def digs (b : Nat) : Nat → Nat → Nat
  | 0, _ => 0
  | n + 1, x => x % 2 ^ b + digs b n (x / 2 ^ b)
/-- the mask of n fields of 2w bits, the lower half of each set -/
def mask (w : Nat) : Nat → Nat
  | 0 => 0
  | n + 1 => (2 ^ w - 1) + 2 ^ (2 * w) * mask w n
/-- neighbours added -/
def halve (w : Nat) : Nat → Nat → Nat
  | 0, _ => 0
  | n + 1, x => (x % 2 ^ w + x / 2 ^ w % 2 ^ w) + 2 ^ (2 * w) * halve w n (x / 2 ^ (2 * w))

theorem two_pow_dbl (w : Nat) : 2 ^ (2 * w) = 2 ^ w * 2 ^ w := by rw [Nat.two_mul, Nat.pow_add]
theorem mod_dbl (x w : Nat) : x % 2 ^ (2 * w) % 2 ^ w = x % 2 ^ w := by
  rw [two_pow_dbl]; exact Nat.mod_mul_right_mod ..
theorem mask_mod (w n : Nat) : mask w (n + 1) % 2 ^ (2 * w) = 2 ^ w - 1 := by
  have h1 : 2 ^ w ≤ 2 ^ (2 * w) := Nat.pow_le_pow_right (by omega) (by omega)
  have h0 := Nat.two_pow_pos w
  simp only [mask, Nat.add_mul_mod_self_left]
  exact Nat.mod_eq_of_lt (by omega)
theorem mask_div (w n : Nat) : mask w (n + 1) / 2 ^ (2 * w) = mask w n := by
  have h1 : 2 ^ w ≤ 2 ^ (2 * w) := Nat.pow_le_pow_right (by omega) (by omega)
  have h0 := Nat.two_pow_pos w
  simp only [mask]
  rw [Nat.add_mul_div_left _ _ (by omega), Nat.div_eq_of_lt (by omega), Nat.zero_add]
theorem and_mask (w n x : Nat) : x &&& mask w (n + 1) = x % 2 ^ w + 2 ^ (2 * w) * (x / 2 ^ (2 * w) &&& mask w n) := by
  rw [and_parts x (mask w (n + 1)) (2 ^ (2 * w)) (2 * w) rfl, mask_mod, mask_div, Nat.and_two_pow_sub_one_eq_mod, mod_dbl]

theorem div_swap (x a b : Nat) : x / a / b = x / b / a := by rw [Nat.div_div_eq_div_mul, Nat.mul_comm, Nat.div_div_eq_div_mul]

theorem halve_eq (w : Nat) : ∀ (n x : Nat), (x / 2 ^ w &&& mask w n) + (x &&& mask w n) = halve w n x
  | 0, x => by simp [mask, halve]
  | n + 1, x => by
    rw [and_mask, and_mask, halve, ← halve_eq w n (x / 2 ^ (2 * w)), div_swap x (2 ^ w), Nat.mul_add]
    omega

theorem halve_digs (w : Nat) (hw : 1 ≤ w) : ∀ (n x : Nat), digs (2 * w) n (halve w n x) = digs w (2 * n) x
  | 0, x => rfl
  | n + 1, x => by
    have h0 := Nat.two_pow_pos w
    have h2 : 2 ^ 1 ≤ 2 ^ w := Nat.pow_le_pow_right (by omega) hw
    have e := two_pow_dbl w
    have a1 := Nat.mod_lt x h0
    have a2 := Nat.mod_lt (x / 2 ^ w) h0
    have a3 : 2 * 2 ^ w ≤ 2 ^ w * 2 ^ w := Nat.mul_le_mul_right _ h2
    have lt : x % 2 ^ w + x / 2 ^ w % 2 ^ w < 2 ^ (2 * w) := by omega
    rw [digs, halve, Nat.add_mul_mod_self_left, Nat.mod_eq_of_lt lt, Nat.add_mul_div_left _ _ (by omega), Nat.div_eq_of_lt lt, Nat.zero_add, halve_digs w hw n]
    show _ = digs w (2 * n + 2) x
    rw [digs, digs, Nat.div_div_eq_div_mul, ← e]
    omega

/-- each digit of b bits is at most c -/
def small (b c : Nat) : Nat → Nat → Prop
  | 0, x => x = 0
  | n + 1, x => x % 2 ^ b ≤ c ∧ small b c n (x / 2 ^ b)
theorem small_of_lt (b : Nat) : ∀ (n x : Nat), x < 2 ^ (b * n) → small b (2 ^ b - 1) n x
  | 0, x, h => by simp at h; exact h
  | n + 1, x, h => by
    have h0 := Nat.two_pow_pos b
    have := Nat.mod_lt x h0
    refine ⟨by omega, small_of_lt b n _ ?_⟩
    rw [Nat.mul_add, Nat.mul_one, Nat.pow_add, Nat.mul_comm] at h
    exact Nat.div_lt_of_lt_mul h
theorem small_halve (w c : Nat) (hw : 1 ≤ w) (hc : c < 2 ^ w) : ∀ (n x : Nat), small w c (2 * n) x → small (2 * w) (2 * c) n (halve w n x)
  | 0, x, _ => rfl
  | n + 1, x, h => by
    obtain ⟨h1, h2, h3⟩ : small w c (2 * n + 2) x := h
    have h0 := Nat.two_pow_pos w
    have h2' : 2 ^ 1 ≤ 2 ^ w := Nat.pow_le_pow_right (by omega) hw
    have e := two_pow_dbl w
    have a3 : 2 * 2 ^ w ≤ 2 ^ w * 2 ^ w := Nat.mul_le_mul_right _ h2'
    have lt : x % 2 ^ w + x / 2 ^ w % 2 ^ w < 2 ^ (2 * w) := by omega
    rw [Nat.div_div_eq_div_mul, ← e] at h3
    refine ⟨?_, ?_⟩
    · rw [halve, Nat.add_mul_mod_self_left, Nat.mod_eq_of_lt lt]; omega
    · rw [halve, Nat.add_mul_div_left _ _ (by omega), Nat.div_eq_of_lt lt, Nat.zero_add]
      exact small_halve w c hw hc n _ h3
theorem halve4 : ∀ (n x : Nat), small 4 4 (2 * n) x → (x / 16 + x) &&& mask 4 n = halve 4 n x
  | 0, x, _ => by simp [mask, halve]
  | n + 1, x, h => by
    obtain ⟨h1, h2, h3⟩ : small 4 4 (2 * n + 2) x := h
    have hd : x / 2 ^ 4 / 2 ^ 4 = x / 256 := by rw [Nat.div_div_eq_div_mul]
    rw [hd] at h3
    have h4 : x / 256 % 16 ≤ 4 := by
      cases n with
      | zero => have : x / 256 = 0 := h3; omega
      | succ n => exact (show small 4 4 (2 * n + 2) (x / 256) from h3).1
    have ih := halve4 n (x / 256) h3
    rw [and_mask, halve]
    have e1 : (x / 16 + x) % 2 ^ 4 = x % 2 ^ 4 + x / 2 ^ 4 % 2 ^ 4 := by simp at h1 h2 ⊢; omega
    have e2 : (x / 16 + x) / 2 ^ (2 * 4) = x / 256 / 16 + x / 256 := by
      simp at h1 h2 ⊢
      obtain ⟨q, hq⟩ : ∃ q, q = x / 256 := ⟨_, rfl⟩
      have ex : x = x % 16 + 16 * (x / 16 % 16) + 256 * q := by omega
      have e16 : x / 16 = x / 16 % 16 + 16 * q := by omega
      rw [← hq] at h4 ⊢
      generalize x / 16 % 16 = u at *
      generalize x % 16 = v at *
      omega
    rw [e1, e2, ih]

/-- the number's ones, as they are counted -/
theorem ones (x : Nat) (hx : x < 18446744073709551616) :
    let x1 := (x / 2 &&& 6148914691236517205) + (x &&& 6148914691236517205)
    let x2 := (x1 / 4 &&& 3689348814741910323) + (x1 &&& 3689348814741910323)
    let x3 := (x2 / 16 + x2) &&& 1085102592571150095
    x1 < 18446744073709551616 ∧ x2 < 18446744073709551616 ∧ x2 / 16 + x2 < 18446744073709551616 ∧ x3 = halve 4 8 (halve 2 16 (halve 1 32 x)) ∧ small 8 8 8 x3 ∧ digs 8 8 x3 = digs 1 64 x := by
  have m0 : mask 1 32 = 6148914691236517205 := by decide
  have m1 : mask 2 16 = 3689348814741910323 := by decide
  have m2 : mask 4 8 = 1085102592571150095 := by decide
  intro x1 x2 x3
  have e1 : x1 = halve 1 32 x := by rw [← halve_eq, m0]
  have e2 : x2 = halve 2 16 x1 := by rw [← halve_eq, m1]
  have s0 : small 1 1 64 x := small_of_lt 1 64 x (by simpa using hx)
  have s1 : small 2 2 32 x1 := by rw [e1]; exact small_halve 1 1 (by omega) (by decide) 32 x s0
  have s2 : small 4 4 16 x2 := by rw [e2]; exact small_halve 2 2 (by omega) (by decide) 16 x1 s1
  have e3 : x3 = halve 4 8 x2 := by rw [← halve4 8 x2 s2, m2]
  have s3 : small 8 8 8 x3 := by rw [e3]; exact small_halve 4 4 (by omega) (by decide) 8 x2 s2
  have b1 : (x / 2 &&& 6148914691236517205) ≤ 6148914691236517205 := Nat.and_le_right
  have b2 : (x &&& 6148914691236517205) ≤ 6148914691236517205 := Nat.and_le_right
  have b3 : (x1 / 4 &&& 3689348814741910323) ≤ 3689348814741910323 := Nat.and_le_right
  have b4 : (x1 &&& 3689348814741910323) ≤ 3689348814741910323 := Nat.and_le_right
  have c1 : x1 ≤ 6148914691236517205 + 6148914691236517205 := Nat.add_le_add b1 b2
  have c2 : x2 ≤ 3689348814741910323 + 3689348814741910323 := Nat.add_le_add b3 b4
  refine ⟨by omega, by omega, by omega, by rw [e3, e2, e1], s3, ?_⟩
  rw [e3, halve_digs 4 (by omega), e2, halve_digs 2 (by omega), e1, halve_digs 1 (by omega)]

/-- eight bytes of at most eight, added up in the lowest -/
theorem ones_end (x : Nat) (h : small 8 8 8 x) : 
    x + x / 256 < 18446744073709551616 ∧ (x + x / 256) + (x + x / 256) / 65536 < 18446744073709551616 ∧
    ((x + x / 256) + (x + x / 256) / 65536) + ((x + x / 256) + (x + x / 256) / 65536) / 4294967296 < 18446744073709551616 ∧
    (((x + x / 256) + (x + x / 256) / 65536) + ((x + x / 256) + (x + x / 256) / 65536) / 4294967296) % 128 = digs 8 8 x := by
  obtain ⟨h0, h1, h2, h3, h4, h5, h6, h7, h8⟩ := h
  have hd : ∀ y, y / 2 ^ 8 = y / 256 := fun _ => rfl
  have hm : ∀ y, y % 2 ^ 8 = y % 256 := fun _ => rfl
  simp only [small] at h8
  simp only [digs, hd, hm] at *
  generalize e1 : x / 256 = y1 at *
  generalize e2 : y1 / 256 = y2 at *
  generalize e3 : y2 / 256 = y3 at *
  generalize e4 : y3 / 256 = y4 at *
  generalize e5 : y4 / 256 = y5 at *
  generalize e6 : y5 / 256 = y6 at *
  generalize e7 : y6 / 256 = y7 at *
  generalize g0 : x % 256 = d0 at *
  generalize g1 : y1 % 256 = d1 at *
  generalize g2 : y2 % 256 = d2 at *
  generalize g3 : y3 % 256 = d3 at *
  generalize g4 : y4 % 256 = d4 at *
  generalize g5 : y5 % 256 = d5 at *
  generalize g6 : y6 % 256 = d6 at *
  generalize g7 : y7 % 256 = d7 at *
  have k7 : y7 = d7 := by omega
  have k6 : y6 = d6 + 256 * d7 := by omega
  have k5 : y5 = d5 + 256 * y6 := by omega
  have k4 : y4 = d4 + 256 * y5 := by omega
  have k3 : y3 = d3 + 256 * y4 := by omega
  have k2 : y2 = d2 + 256 * y3 := by omega
  have k1 : y1 = d1 + 256 * y2 := by omega
  have k0 : x = d0 + 256 * y1 := by omega
  clear e1 e2 e3 e4 e5 e6 e7 g0 g1 g2 g3 g4 g5 g6 g7 h8
  have a0 : (x + y1) / 65536 = (d2 + d3) + 256 * (d3 + d4) + 65536 * (d4 + d5) + 16777216 * (d5 + d6) + 4294967296 * (d6 + d7) + 1099511627776 * d7 := by omega
  rw [a0]
  have b0 : (x + y1 + ((d2 + d3) + 256 * (d3 + d4) + 65536 * (d4 + d5) + 16777216 * (d5 + d6) + 4294967296 * (d6 + d7) + 1099511627776 * d7)) / 4294967296 =
    (d4 + d5 + d6 + d7) + 256 * (d5 + d6 + d7) + 65536 * (d6 + d7) + 16777216 * d7 := by omega
  rw [b0]
  refine ⟨by omega, by omega, by omega, by omega⟩

theorem filter_range_succ (p : Nat → Bool) (n : Nat) : ((List.range (n + 1)).filter p).length = (if p 0 then 1 else 0) + ((List.range n).filter (fun j => p (j + 1))).length := by
  rw [List.range_succ_eq_map, List.filter_cons, List.filter_map]
  split <;> simp [Function.comp_def, Nat.add_comm]
theorem digs_ones : ∀ (n x : Nat), digs 1 n x = ((List.range n).filter x.testBit).length
  | 0, _ => rfl
  | n + 1, x => by
    rw [filter_range_succ, digs, digs_ones n]
    congr 1
    · rw [Nat.testBit_zero]; have : x % 2 ^ 1 = x % 2 := by rw [Nat.pow_one]
      rw [this]; by_cases h : x % 2 = 1
      · simp [h]
      · simp [h]; omega
    · simp [Nat.testBit_succ]
/-! the same sums as the walk writes them -/
theorem step_and (x k c : Nat) (hc : c < 18446744073709551616) (hx : x < 18446744073709551616) (h : (x / k &&& c) + (x &&& c) < 18446744073709551616) :
    IntKind.u64.wrap (bits .and .u64 ((x : Int) / (k : Int)) (c : Int) + bits .and .u64 (x : Int) (c : Int)) = (((x / k &&& c) + (x &&& c) : Nat) : Int) := by
  have e : (x : Int) / (k : Int) = ((x / k : Nat) : Int) := by simp
  rw [e, bits_and_nat _ _ (Nat.lt_of_le_of_lt (Nat.div_le_self _ _) hx) hc, bits_and_nat _ _ hx hc, IntKind.wrap_u64]
  omega
theorem step_add (x k : Nat) (h : x + x / k < 18446744073709551616) : IntKind.u64.wrap ((x : Int) + (x : Int) / (k : Int)) = ((x + x / k : Nat) : Int) := by
  have e : (x : Int) / (k : Int) = ((x / k : Nat) : Int) := by simp
  rw [e, IntKind.wrap_u64]
  generalize x / k = q at *
  omega
theorem step_add' (x k : Nat) (h : x / k + x < 18446744073709551616) : IntKind.u64.wrap ((x : Int) / (k : Int) + (x : Int)) = ((x / k + x : Nat) : Int) := by
  have e : (x : Int) / (k : Int) = ((x / k : Nat) : Int) := by simp
  rw [e, IntKind.wrap_u64]
  generalize x / k = q at *
  omega
theorem wrap_i64_of (n : Int) (h0 : -9223372036854775808 ≤ n) (h : n ≤ 9223372036854775807) : IntKind.i64.wrap n = n := by
  simp only [IntKind.wrap, IntKind.bits, IntKind.signed]
  simp
  omega
theorem step_end (x : Nat) (h : x < 18446744073709551616) : bits .and .i64 (wrap64 (x : Int)) 127 = ((x % 128 : Nat) : Int) := by
  rw [show wrap64 (x : Int) = IntKind.i64.wrap (x : Int) from by rw [IntKind.wrap_i64]; simp [wrap64]; try omega]
  have e : BitVec.ofInt 64 (IntKind.i64.wrap (x : Int)) = BitVec.ofNat 64 x := by
    apply BitVec.eq_of_toNat_eq
    rw [BitVec.toNat_ofInt, BitVec.toNat_ofNat]
    simp only [IntKind.wrap, IntKind.bits, IntKind.signed]
    simp
    omega
  show IntKind.i64.wrap ((BitVec.ofInt 64 (IntKind.i64.wrap (x : Int)) &&& BitVec.ofInt 64 127).toNat : Int) = _
  rw [e, BitVec.toNat_and, BitVec.toNat_ofNat, Nat.mod_eq_of_lt (by omega)]
  have : (BitVec.ofInt 64 127).toNat = 2 ^ 7 - 1 := by decide
  rw [this, Nat.and_two_pow_sub_one_eq_mod]
  exact wrap_i64_of _ (by omega) (by omega)
end Go.Proofs.Ytklmomgccmekkaa
