/- The greedy order as mathematics: choices compared as lists of numbers, a proper prefix ahead; where they part; the first of the least. -/
import Derived.Test.YtblgjcolmaidlaaBitsPut
import Derived.Lib.Bytealg
namespace Go.Proofs.Ytblgjcolmaidlaa
namespace V
set_option maxRecDepth 100000
open Go.RowKit
def elex : List Nat → List Nat → Int
  | [], [] => 0
  | [], _ :: _ => -1
  | _ :: _, [] => 1
  | a :: l, b :: m => if a < b then -1 else if b < a then 1 else elex l m
def eapt : List Nat → List Nat → Nat
  | a :: l, b :: m => if a = b then eapt l m + 1 else 0
  | [], _ => 0
  | _ :: _, [] => 0
/-- where two lists part: -1 if nowhere -/
def apartL (l m : List Nat) : Int := if l = m then -1 else (eapt l m : Int)
abbrev eord (x y : Vl) : Int := elex x.put y.put
abbrev eapart (x y : Vl) : Int := apartL x.put y.put
/-- the first of the least among the first so many and one -/
def ebst (P : List (List Nat)) : Nat → Nat
  | 0 => 0
  | j + 1 => if elex (P.getD (j + 1) []) (P.getD (ebst P j) []) < 0 then j + 1 else ebst P j
theorem ebst_le (P : List (List Nat)) : ∀ j, ebst P j ≤ j
  | 0 => Nat.le_refl _
  | j + 1 => by
    rw [ebst]
    have := ebst_le P j
    split <;> omega
theorem elex_self : ∀ l, elex l l = 0
  | [] => rfl
  | a :: l => by rw [elex, if_neg (Nat.lt_irrefl _), if_neg (Nat.lt_irrefl _)]; exact elex_self l
theorem elex_turn : ∀ l m, elex m l = -elex l m
  | [], [] => rfl
  | [], _ :: _ => rfl
  | _ :: _, [] => rfl
  | a :: l, b :: m => by
    rw [elex, elex]
    by_cases h1 : a < b
    · rw [if_neg (by omega), if_pos h1, if_pos h1]; rfl
    · by_cases h2 : b < a
      · rw [if_pos h2, if_neg h1, if_pos h2]
      · rw [if_neg h2, if_neg h1, if_neg h1, if_neg h2]; exact elex_turn l m
def ETri (n : Int) : Prop := n = -1 ∨ n = 0 ∨ n = 1
theorem elex_tri : ∀ l m, ETri (elex l m)
  | [], [] => .inr (.inl rfl)
  | [], _ :: _ => .inl rfl
  | _ :: _, [] => .inr (.inr rfl)
  | a :: l, b :: m => by
    rw [elex]
    split
    · exact .inl rfl
    · split
      · exact .inr (.inr rfl)
      · exact elex_tri l m
theorem elex_zero : ∀ {l m}, elex l m = 0 → l = m
  | [], [], _ => rfl
  | [], _ :: _, h => by cases h
  | _ :: _, [], h => by cases h
  | a :: l, b :: m, h => by
    rw [elex] at h
    by_cases h1 : a < b
    · rw [if_pos h1] at h; cases h
    · rw [if_neg h1] at h
      by_cases h2 : b < a
      · rw [if_pos h2] at h; cases h
      · rw [if_neg h2] at h
        rw [show a = b from by omega, elex_zero h]
theorem elex_iff {l m : List Nat} : elex l m = 0 ↔ l = m := ⟨elex_zero, fun h => by rw [h]; exact elex_self _⟩
structure EThree (x y z : Int) : Prop where
  le : 0 < x ∨ 0 < y ∨ z ≤ 0
  lt1 : 0 ≤ x ∨ 0 < y ∨ z < 0
theorem elex_three : ∀ l m n, EThree (elex l m) (elex m n) (elex l n)
  | [], [], [] => ⟨by decide, by decide⟩
  | [], [], _ :: _ => ⟨.inr (.inr (by show (-1 : Int) ≤ 0; decide)), .inl (by show (0 : Int) ≤ 0; decide)⟩
  | [], _ :: _, [] => ⟨.inr (.inl (by show (0 : Int) < 1; decide)), .inr (.inl (by show (0 : Int) < 1; decide))⟩
  | [], _ :: _, _ :: _ => ⟨.inr (.inr (by show (-1 : Int) ≤ 0; decide)), .inr (.inr (by show (-1 : Int) < 0; decide))⟩
  | _ :: _, [], _ => ⟨.inl (by show (0 : Int) < 1; decide), .inl (by show (0 : Int) ≤ 1; decide)⟩
  | _ :: _, _ :: _, [] => ⟨.inr (.inl (by show (0 : Int) < 1; decide)), .inr (.inl (by show (0 : Int) < 1; decide))⟩
  | a :: l, b :: m, c :: n => by
    obtain ⟨h1, h2⟩ := elex_three l m n
    rw [elex, elex, elex]
    by_cases hab : a < b
    · rw [if_pos hab]
      by_cases hbc : b < c
      · rw [if_pos hbc, if_pos (by omega)]; exact ⟨by decide, by decide⟩
      · rw [if_neg hbc]
        by_cases hcb : c < b
        · rw [if_pos hcb]; exact ⟨.inr (.inl (by decide)), .inr (.inl (by decide))⟩
        · rw [if_neg hcb, if_pos (show a < c by omega)]; exact ⟨.inr (.inr (by decide)), .inr (.inr (by decide))⟩
    · rw [if_neg hab]
      by_cases hba : b < a
      · rw [if_pos hba]; exact ⟨.inl (by decide), .inl (by decide)⟩
      · rw [if_neg hba]
        obtain rfl : a = b := by omega
        by_cases hbc : a < c
        · rw [if_pos hbc, if_pos hbc]; exact ⟨.inr (.inr (by decide)), .inr (.inr (by decide))⟩
        · rw [if_neg hbc, if_neg hbc]
          by_cases hcb : c < a
          · rw [if_pos hcb]; exact ⟨.inr (.inl (by decide)), .inr (.inl (by decide))⟩
          · rw [if_neg hcb, if_neg hcb]; exact ⟨h1, h2⟩
theorem elex_append : ∀ p l m, elex (p ++ l) (p ++ m) = elex l m
  | [], _, _ => rfl
  | a :: p, l, m => by rw [List.cons_append, List.cons_append, elex, if_neg (Nat.lt_irrefl _), if_neg (Nat.lt_irrefl _)]; exact elex_append p l m
theorem eapt_le : ∀ l m, eapt l m ≤ l.length ∧ eapt l m ≤ m.length
  | [], _ => by rw [eapt]; exact ⟨Nat.zero_le _, Nat.zero_le _⟩
  | _ :: _, [] => by rw [eapt]; exact ⟨Nat.zero_le _, Nat.zero_le _⟩
  | a :: l, b :: m => by
    rw [eapt]
    have := eapt_le l m
    simp only [List.length_cons]
    split <;> omega
/-- so far the same: it parts further on -/
theorem eapt_step : ∀ (j : Nat) (l m : List Nat) (hl : j < l.length) (hm : j < m.length), l.take j = m.take j → (l[j] = m[j] → l.take (j + 1) = m.take (j + 1)) ∧ (l[j] ≠ m[j] → eapt l m = j)
  | _, [], _, hl, _, _ => by simp at hl
  | _, _ :: _, [], _, hm, _ => by simp at hm
  | 0, a :: l, b :: m, _, _, _ => ⟨fun h => by
      have h' : a = b := h
      rw [h']; rfl, fun h => by
      have h' : a ≠ b := h
      rw [eapt, if_neg h']⟩
  | j + 1, a :: l, b :: m, hl, hm, h => by
    rw [List.take_succ_cons, List.take_succ_cons] at h
    injection h with h1 h2
    have ih := eapt_step j l m (by simpa using hl) (by simpa using hm) h2
    refine ⟨fun h => ?_, fun h => ?_⟩
    · rw [List.take_succ_cons, List.take_succ_cons, h1, ih.1 h]
    · rw [eapt, if_pos h1, ih.2 h]
theorem eapt_end : ∀ (l m : List Nat), l.take (min l.length m.length) = m.take (min l.length m.length) → eapt l m = min l.length m.length
  | [], _, _ => by rw [eapt]; simp
  | _ :: _, [], _ => by rw [eapt]; simp
  | a :: l, b :: m, h => by
    have e : min (a :: l).length (b :: m).length = min l.length m.length + 1 := by simp only [List.length_cons]; omega
    rw [e] at h ⊢
    rw [List.take_succ_cons, List.take_succ_cons] at h
    injection h with h1 h2
    rw [eapt, if_pos h1, eapt_end l m h2]
theorem apartL_same (l : List Nat) : apartL l l = -1 := by unfold apartL; rw [if_pos rfl]
theorem apartL_iff {l m : List Nat} : apartL l m = -1 ↔ l = m := by
  unfold apartL
  split
  · rename_i h
    exact ⟨fun _ => h, fun _ => rfl⟩
  · rename_i h
    exact ⟨fun e => by omega, fun e => absurd e h⟩
theorem apartL_le (l m : List Nat) : apartL l m ≤ l.length ∧ apartL l m ≤ m.length := by
  unfold apartL
  have := eapt_le l m
  split <;> omega
/-! strings -/
theorem cmp_nats : ∀ a b : List UInt8, Lib.compareBytes a b = elex (a.map UInt8.toNat) (b.map UInt8.toNat)
  | [], [] => rfl
  | [], _ :: _ => rfl
  | _ :: _, [] => rfl
  | a :: l, b :: m => by
    rw [Lib.compareBytes, List.map_cons, List.map_cons, elex, cmp_nats l m]
    simp only [UInt8.lt_iff_toNat_lt]
theorem less_nats : ∀ a b : List UInt8, Op.bytesLess a b = decide (elex (a.map UInt8.toNat) (b.map UInt8.toNat) < 0)
  | [], [] => by rw [Op.bytesLess]; rfl
  | [], _ :: _ => by rw [Op.bytesLess]; rfl
  | _ :: _, [] => by rw [Op.bytesLess]; rfl
  | a :: l, b :: m => by
    rw [Op.bytesLess, List.map_cons, List.map_cons, elex, less_nats l m]
    by_cases h1 : a.toNat < b.toNat
    · rw [if_pos h1, decide_eq_true (UInt8.lt_iff_toNat_lt.2 h1)]; rfl
    · rw [if_neg h1, decide_eq_false (fun h => h1 (UInt8.lt_iff_toNat_lt.1 h)), Bool.false_or]
      by_cases h2 : b.toNat < a.toNat
      · have hne : (a == b) = false := by simp; intro h; rw [h] at h2; omega
        rw [if_pos h2, hne, Bool.false_and]; rfl
      · have he : a = b := UInt8.toNat_inj.1 (by omega)
        rw [if_neg h2, he]; simp
theorem str_less (a b : ByteArray) : Op.bytesLess a.toList b.toList = decide (elex (nats a) (nats b) < 0) := by rw [Lib.toList_data, Lib.toList_data]; exact less_nats _ _
theorem str_cmp (a b : ByteArray) : Lib.compareBytes a.data.toList b.data.toList = elex (nats a) (nats b) := cmp_nats _ _
theorem str_get (a : ByteArray) (i : Nat) (h : i < a.size) (h' : i < (nats a).length) : (a[i]'h).toNat = (nats a)[i] := by
  simp only [nats, List.getElem_map]
  rfl
end V
end Go.Proofs.Ytblgjcolmaidlaa
