/- The plain mathematics of partitions: which bytes no set tells apart, the least of each part, the parts. -/
import Derived.Test.YtaanhijjhllckaaSetAll
namespace Go.Proofs.Ytaanhijjhllckaa
set_option maxRecDepth 100000
open Go.RowKit

/-- the bytes that no set of L tells apart from b, as the program gathers them -/
def alike (L : List (BitVec 256)) (b : Nat) : BitVec 256 := L.foldl (fun acc s => if s.getLsbD b then acc &&& s else acc &&& ~~~s) (BitVec.allOnes 256)
/-- no set of L tells a from b -/
def same (L : List (BitVec 256)) (a b : Nat) : Bool := L.all fun s => s.getLsbD a == s.getLsbD b
theorem alike_snoc (L : List (BitVec 256)) (s : BitVec 256) (b : Nat) : alike (L ++ [s]) b = if s.getLsbD b then alike L b &&& s else alike L b &&& ~~~s := by simp [alike]
theorem ones_bit (c : Nat) (hc : c < 256) : (BitVec.allOnes 256).getLsbD c = true := by rw [BitVec.getLsbD_allOnes, decide_eq_true hc]
theorem alike_bit (L : List (BitVec 256)) (b c : Nat) (hc : c < 256) : (alike L b).getLsbD c = same L b c := by
  have h : ∀ (L : List (BitVec 256)) (acc : BitVec 256), (L.foldl (fun acc s => if s.getLsbD b then acc &&& s else acc &&& ~~~s) acc).getLsbD c = (acc.getLsbD c && same L b c) := by
    intro L
    induction L with
    | nil => intro acc; simp [same]
    | cons s L ih =>
      intro acc
      rw [List.foldl_cons, ih]
      have e : same (s :: L) b c = ((s.getLsbD b == s.getLsbD c) && same L b c) := by simp [same]
      rw [e, ← Bool.and_assoc]
      congr 1
      cases hb : s.getLsbD b
      · simp [hc]
      · simp
  unfold alike
  rw [h, ones_bit c hc, Bool.true_and]
theorem same_refl (L : List (BitVec 256)) (a : Nat) : same L a a = true := by simp [same]
theorem same_iff (L : List (BitVec 256)) (a b : Nat) : same L a b = true ↔ ∀ s ∈ L, s.getLsbD a = s.getLsbD b := by simp [same]
theorem same_symm {L : List (BitVec 256)} {a b : Nat} (h : same L a b = true) : same L b a = true := by
  rw [same_iff] at *; intro s hs; exact (h s hs).symm
theorem same_trans {L : List (BitVec 256)} {a b c : Nat} (h : same L a b = true) (h' : same L b c = true) : same L a c = true := by
  rw [same_iff] at *; intro s hs; exact (h s hs).trans (h' s hs)
/-- b is the least of its part -/
def isHead (L : List (BitVec 256)) (b : Nat) : Bool := (List.range b).all fun d => !same L d b
theorem isHead_iff (L : List (BitVec 256)) (b : Nat) : isHead L b = true ↔ ∀ d, d < b → same L d b = false := by simp [isHead]
def headsTo (L : List (BitVec 256)) (k : Nat) : List Nat := (List.range k).filter (isHead L)
theorem headsTo_succ (L : List (BitVec 256)) (k : Nat) : headsTo L (k + 1) = if isHead L k then headsTo L k ++ [k] else headsTo L k := by
  unfold headsTo
  rw [List.range_succ, List.filter_append]
  by_cases h : isHead L k = true
  · simp [h]
  · simp [h]
theorem headsTo_len (L : List (BitVec 256)) (k : Nat) : (headsTo L k).length ≤ k := by
  unfold headsTo
  exact Nat.le_trans (List.length_filter_le _ _) (by simp)
theorem mem_headsTo (L : List (BitVec 256)) (k b : Nat) : b ∈ headsTo L k ↔ b < k ∧ isHead L b = true := by simp [headsTo]
theorem headsTo_same (L : List (BitVec 256)) (k m : Nat) (hm : k ≤ m) (h : ∀ c, k ≤ c → c < m → isHead L c = false) : headsTo L m = headsTo L k := by
  induction m with
  | zero => obtain rfl : k = 0 := by omega
            rfl
  | succ m ih =>
    by_cases e : k = m + 1
    · rw [e]
    · rw [headsTo_succ, h m (by omega) (by omega), if_neg (by simp)]
      exact ih (by omega) (fun c h1 h2 => h c h1 (by omega))
/-- what is left when all parts with a byte below k are taken -/
def Remain (L : List (BitVec 256)) (k : Nat) (r : BitVec 256) : Prop := ∀ c, c < 256 → (r.getLsbD c = true ↔ ∀ d, d < k → same L d c = false)
theorem remain_zero (L : List (BitVec 256)) : Remain L 0 (BitVec.allOnes 256) := fun c hc => by rw [ones_bit c hc]; simp
theorem elems_cons {r : BitVec 256} {b : Nat} {l : List Nat} (h : elems r = b :: l) : b < 256 ∧ r.getLsbD b = true ∧ ∀ c, c < b → r.getLsbD c = false := by
  have hb := (mem_elems r b).1 (by rw [h]; simp)
  refine ⟨hb.1, hb.2, fun c hc => ?_⟩
  by_cases hr : r.getLsbD c = true
  · have hm : c ∈ elems r := (mem_elems r c).2 ⟨by omega, hr⟩
    have hp : (elems r).Pairwise (· < ·) := List.Pairwise.filter _ List.pairwise_lt_range
    rw [h] at hm hp
    rw [List.pairwise_cons] at hp
    rcases List.mem_cons.1 hm with e | e
    · omega
    · have := hp.1 c e; omega
  · simpa using hr
theorem elems_nil {r : BitVec 256} (h : elems r = []) (c : Nat) (hc : c < 256) : r.getLsbD c = false := by
  by_cases hr : r.getLsbD c = true
  · have hm : c ∈ elems r := (mem_elems r c).2 ⟨hc, hr⟩
    rw [h] at hm; simp at hm
  · simpa using hr
theorem elems_of {r : BitVec 256} {b : Nat} (hb : b < 256) (h : r.getLsbD b = true) (hn : ∀ c, c < b → r.getLsbD c = false) : ∃ l, elems r = b :: l := by
  cases he : elems r with
  | nil => have := elems_nil he b hb; simp [h] at this
  | cons c l =>
    obtain ⟨h1, h2, h3⟩ := elems_cons he
    have : c = b := by
      rcases Nat.lt_trichotomy c b with h' | h' | h'
      · have := hn c h'; simp [this] at h2
      · exact h'
      · have := h3 b h'; simp [this] at h
    subst this
    exact ⟨l, rfl⟩
/-- a byte that is not left has the like of it below k -/
theorem remain_no {L : List (BitVec 256)} {k c : Nat} {r : BitVec 256} (hr : Remain L k r) (hc : c < 256) (h : r.getLsbD c = false) : ∃ d, d < k ∧ same L d c = true := by
  by_cases hx : ∃ d, d < k ∧ same L d c = true
  · exact hx
  · have : r.getLsbD c = true := (hr c hc).2 (fun d hd => by
      by_cases hs : same L d c = true
      · exact absurd ⟨d, hd, hs⟩ hx
      · simpa using hs)
    simp [this] at h
theorem head_step {L : List (BitVec 256)} {k b : Nat} {r : BitVec 256} {l : List Nat} (hr : Remain L k r) (he : elems r = b :: l) :
    k ≤ b ∧ b < 256 ∧ headsTo L (b + 1) = headsTo L k ++ [b] ∧ Remain L (b + 1) (r &&& ~~~alike L b) := by
  obtain ⟨hb, h1, h2⟩ := elems_cons he
  have hkb : k ≤ b := by
    rcases Nat.lt_or_ge b k with h | h
    · have := (hr b hb).1 h1 b h
      rw [same_refl] at this; cases this
    · exact h
  have hnone : ∀ d, d < b → same L d b = false := by
    intro d hd
    by_cases hs : same L d b = true
    · obtain ⟨e, he1, he2⟩ := remain_no hr (by omega) (h2 d hd)
      have := (hr b hb).1 h1 e he1
      rw [same_trans he2 hs] at this; cases this
    · simpa using hs
  have hno : ∀ c, k ≤ c → c < b → isHead L c = false := by
    intro c hc1 hc2
    obtain ⟨d, hd1, hd2⟩ := remain_no hr (by omega) (h2 c hc2)
    by_cases hh : isHead L c = true
    · have := (isHead_iff L c).1 hh d (by omega)
      rw [hd2] at this; cases this
    · simpa using hh
  refine ⟨hkb, hb, ?_, fun c hc => ?_⟩
  · rw [headsTo_succ, (isHead_iff L b).2 hnone, if_pos rfl, headsTo_same L k b hkb hno]
  · rw [BitVec.getLsbD_and, BitVec.getLsbD_not, alike_bit L b c hc, Bool.and_eq_true]
    constructor
    · rintro ⟨hx1, hx2⟩ d hd
      have hbc : same L b c = false := by simpa [hc] using hx2
      by_cases hs : same L d c = true
      · rcases Nat.lt_or_ge d k with h | h
        · have := (hr c hc).1 hx1 d h; rw [hs] at this; cases this
        · by_cases hdb : d = b
          · subst hdb; rw [hs] at hbc; cases hbc
          · obtain ⟨e, he1, he2⟩ := remain_no hr (by omega) (h2 d (by omega))
            have := (hr c hc).1 hx1 e he1
            rw [same_trans he2 hs] at this; cases this
      · simpa using hs
    · intro h
      refine ⟨(hr c hc).2 (fun d hd => h d (by omega)), ?_⟩
      have := h b (by omega)
      simp [hc, this]
theorem head_end {L : List (BitVec 256)} {k : Nat} {r : BitVec 256} (hk : k ≤ 256) (hr : Remain L k r) (he : elems r = []) : headsTo L 256 = headsTo L k := by
  refine headsTo_same L k 256 hk (fun c hc1 hc2 => ?_)
  obtain ⟨d, hd1, hd2⟩ := remain_no hr hc2 (elems_nil he c hc2)
  by_cases hh : isHead L c = true
  · have := (isHead_iff L c).1 hh d (by omega)
    rw [hd2] at this; cases this
  · simpa using hh
/-- the parts, by their least bytes -/
def partsTo (L : List (BitVec 256)) (k : Nat) : List (BitVec 256) := (headsTo L k).map (alike L)
abbrev partsOf (L : List (BitVec 256)) : List (BitVec 256) := partsTo L 256
theorem partsTo_len (L : List (BitVec 256)) (k : Nat) : (partsTo L k).length ≤ k := by rw [partsTo, List.length_map]; exact headsTo_len L k
theorem partsTo_step {L : List (BitVec 256)} {k b : Nat} (h : headsTo L (b + 1) = headsTo L k ++ [b]) : partsTo L (b + 1) = partsTo L k ++ [alike L b] := by simp [partsTo, h]
end Go.Proofs.Ytaanhijjhllckaa
