/- The plain mathematics of patterns as trees. -/
import Derived.Test.YtaanhijjhllckaaSetAll
namespace Go.Proofs.Ytaanhijjhllckaa
set_option maxRecDepth 100000
open Go.RowKit

/-- a node: kind, set, bounds, number, nodes -/
inductive Nd where
  | mk (kind : Int) (set : BitVec 256) (lo hi n : Int) (l : List Nd)
def Nd.kind : Nd → Int
  | .mk k _ _ _ _ _ => k
def Nd.nodes : Nd → List Nd
  | .mk _ _ _ _ _ l => l
/-! how many nodes -/
mutual
def Nd.count : Nd → Nat
  | .mk _ _ _ _ _ l => 1 + counts l
def counts : List Nd → Nat
  | [] => 0
  | x :: l => x.count + counts l
end
theorem count_mk (k : Int) (s : BitVec 256) (lo hi n : Int) (l : List Nd) : (Nd.mk k s lo hi n l).count = 1 + counts l := by rw [Nd.count]
theorem Nd.count_pos (x : Nd) : 0 < x.count := by
  cases x; rw [count_mk]; omega
theorem counts_mem {l : List Nd} {x : Nd} (h : x ∈ l) : x.count ≤ counts l := by
  induction l with
  | nil => simp at h
  | cons y l ih =>
    unfold counts
    rcases List.mem_cons.mp h with rfl | h
    · omega
    · have := ih h; omega
theorem count_mem {x y : Nd} (h : y ∈ x.nodes) : y.count < x.count := by
  cases x with
  | mk k s lo hi n l =>
    rw [count_mk]
    have := counts_mem (show y ∈ l from h)
    omega
def sizeOfN (x : Nd) : Nat := min x.count 100000
/-! how deep -/
mutual
def Nd.deep : Nd → Nat
  | .mk _ _ _ _ _ l => 1 + deeps l
def deeps : List Nd → Nat
  | [] => 0
  | x :: l => max x.deep (deeps l)
end
theorem deep_mk (k : Int) (s : BitVec 256) (lo hi n : Int) (l : List Nd) : (Nd.mk k s lo hi n l).deep = 1 + deeps l := by rw [Nd.deep]
theorem deeps_mem {l : List Nd} {x : Nd} (h : x ∈ l) : x.deep ≤ deeps l := by
  induction l with
  | nil => simp at h
  | cons y l ih =>
    unfold deeps
    rcases List.mem_cons.mp h with rfl | h
    · omega
    · have := ih h; omega
theorem deep_mem {x y : Nd} (h : y ∈ x.nodes) : y.deep < x.deep := by
  cases x with
  | mk k s lo hi n l =>
    rw [deep_mk]
    have := deeps_mem (show y ∈ l from h)
    omega
def depthOfN (x : Nd) : Nat := min x.deep 65
/-! the sets, from left to right, each once -/
def addSet (acc : List (BitVec 256)) (s : BitVec 256) : List (BitVec 256) := if s ∈ acc then acc else acc ++ [s]
mutual
def Nd.setsTo : Nd → List (BitVec 256) → List (BitVec 256)
  | .mk k s _ _ _ l, acc => if k = 1 then addSet acc s else setsAll l acc
def setsAll : List Nd → List (BitVec 256) → List (BitVec 256)
  | [], acc => acc
  | x :: l, acc => setsAll l (x.setsTo acc)
end
def Nd.sets (x : Nd) : List (BitVec 256) := x.setsTo []
/-! whether a set stands somewhere in a node -/
mutual
def Nd.holds (s : BitVec 256) : Nd → Bool
  | .mk k t _ _ _ l => if k = 1 then decide (t = s) else holdsAny s l
def holdsAny (s : BitVec 256) : List Nd → Bool
  | [] => false
  | x :: l => x.holds s || holdsAny s l
end
theorem addSet_mem (acc : List (BitVec 256)) (s t : BitVec 256) : t ∈ addSet acc s ↔ t ∈ acc ∨ s = t := by
  unfold addSet
  split
  · rename_i h
    constructor
    · exact Or.inl
    · rintro (h' | rfl)
      · exact h'
      · exact h
  · simp [eq_comm]
theorem addSet_nodup {acc : List (BitVec 256)} (s : BitVec 256) (h : acc.Nodup) : (addSet acc s).Nodup := by
  unfold addSet
  split
  · exact h
  · rename_i hs
    rw [List.nodup_append]
    refine ⟨h, by simp, ?_⟩
    intro a ha b hb
    rw [List.mem_singleton] at hb
    rintro rfl
    exact hs (hb ▸ ha)
mutual
theorem Nd.setsTo_mem : ∀ (x : Nd) (acc : List (BitVec 256)) (t : BitVec 256), t ∈ x.setsTo acc ↔ t ∈ acc ∨ x.holds t = true
  | .mk k s _ _ _ l, acc, t => by
    unfold Nd.setsTo Nd.holds
    split
    · rw [addSet_mem]; simp
    · exact setsAll_mem l acc t
theorem setsAll_mem : ∀ (l : List Nd) (acc : List (BitVec 256)) (t : BitVec 256), t ∈ setsAll l acc ↔ t ∈ acc ∨ holdsAny t l = true
  | [], acc, t => by simp [setsAll, holdsAny]
  | x :: l, acc, t => by
    unfold setsAll holdsAny
    rw [setsAll_mem l, Nd.setsTo_mem x, Bool.or_eq_true, or_assoc]
end
mutual
theorem Nd.setsTo_nodup : ∀ (x : Nd) (acc : List (BitVec 256)), acc.Nodup → (x.setsTo acc).Nodup
  | .mk k s _ _ _ l, acc, h => by
    unfold Nd.setsTo
    split
    · exact addSet_nodup s h
    · exact setsAll_nodup l acc h
theorem setsAll_nodup : ∀ (l : List Nd) (acc : List (BitVec 256)), acc.Nodup → (setsAll l acc).Nodup
  | [], acc, h => h
  | x :: l, acc, h => by unfold setsAll; exact setsAll_nodup l _ (Nd.setsTo_nodup x acc h)
end
theorem sets_mem (x : Nd) (t : BitVec 256) : t ∈ x.sets ↔ x.holds t = true := by
  unfold Nd.sets; rw [Nd.setsTo_mem]; simp
theorem holds_mk (t : BitVec 256) (k : Int) (s : BitVec 256) (lo hi n : Int) (l : List Nd) : (Nd.mk k s lo hi n l).holds t = if k = 1 then decide (s = t) else holdsAny t l := by rw [Nd.holds]
theorem holdsAny_of {l : List Nd} {y : Nd} (h : y ∈ l) {t : BitVec 256} (ht : y.holds t = true) : holdsAny t l = true := by
  induction l with
  | nil => simp at h
  | cons z l ih =>
    unfold holdsAny
    rcases List.mem_cons.mp h with rfl | h
    · rw [ht]; rfl
    · rw [ih h, Bool.or_true]
/-- lists without duplicates: the lesser one is no longer -/
theorem nodup_le : ∀ (l m : List (BitVec 256)), l.Nodup → (∀ t ∈ l, t ∈ m) → l.length ≤ m.length
  | [], _, _, _ => Nat.zero_le _
  | x :: l, m, h, hs => by
    rw [List.nodup_cons] at h
    have hx := hs x (by simp)
    have h2 := nodup_le l (m.erase x) h.2 (fun t ht => by
      have hne : t ≠ x := fun e => h.1 (e ▸ ht)
      exact (List.mem_erase_of_ne hne).mpr (hs t (by simp [ht])))
    rw [List.length_erase_of_mem hx] at h2
    have := List.length_pos_of_mem hx
    simp only [List.length_cons]
    omega
theorem sets_part {x y : Nd} (h : y ∈ x.nodes) (hk : x.kind ≠ 1) : y.sets.length ≤ x.sets.length := by
  refine nodup_le _ _ (Nd.setsTo_nodup y [] List.nodup_nil) (fun t ht => ?_)
  rw [sets_mem] at ht ⊢
  cases x with
  | mk k s lo hi n l =>
    rw [holds_mk, if_neg (show ¬ k = 1 from hk)]
    exact holdsAny_of (show y ∈ l from h) ht
/-! whether two are equal -/
mutual
def Nd.same : Nd → Nd → Bool
  | .mk k s lo hi n l, .mk k' s' lo' hi' n' l' => decide (k = k') && decide (s = s') && decide (lo = lo') && decide (hi = hi') && decide (n = n') && sames l l'
def sames : List Nd → List Nd → Bool
  | [], [] => true
  | x :: l, y :: m => x.same y && sames l m
  | _, _ => false
end
mutual
theorem Nd.same_refl : ∀ x : Nd, x.same x = true
  | .mk _ _ _ _ _ l => by unfold Nd.same; simp [sames_refl l]
theorem sames_refl : ∀ l : List Nd, sames l l = true
  | [] => rfl
  | x :: l => by unfold sames; rw [Nd.same_refl x, sames_refl l]; rfl
end
mutual
theorem Nd.same_eq : ∀ x y : Nd, x.same y = true → x = y
  | .mk _ _ _ _ _ l, .mk _ _ _ _ _ l', h => by
    unfold Nd.same at h
    simp only [Bool.and_eq_true, decide_eq_true_eq] at h
    obtain ⟨⟨⟨⟨⟨rfl, rfl⟩, rfl⟩, rfl⟩, rfl⟩, h⟩ := h
    rw [sames_eq l l' h]
theorem sames_eq : ∀ l m : List Nd, sames l m = true → l = m
  | [], [], _ => rfl
  | [], _ :: _, h => by simp [sames] at h
  | _ :: _, [], h => by simp [sames] at h
  | x :: l, y :: m, h => by
    unfold sames at h
    rw [Bool.and_eq_true] at h
    rw [Nd.same_eq x y h.1, sames_eq l m h.2]
end
/-! whether a pattern is valid: next: the number of the group that comes -/
/-- which kinds may stand within which -/
def within (k c : Int) : Bool := !(k == 2 && (c == 2 || c == 3) || k == 3 && c == 3 || k == 4 && (c == 2 || c == 3 || c == 4))
/-- a node's own fields -/
def fieldsOk (k : Int) (s : BitVec 256) (lo hi n : Int) (len : Nat) (next : Nat) : Bool :=
  (k == 1 || decide (s = 0)) && (k == 4 || lo == 0 && hi == 0) && (k == 5 || n == 0) &&
  (if k = 1 then decide (s ≠ 0) && decide (len = 0)
   else if k = 2 ∨ k = 3 then decide (2 ≤ len)
   else if k = 4 then decide (len = 1) && decide (0 ≤ lo) && decide (lo ≤ 255) && (hi == -1 || decide (lo ≤ hi) && decide (hi ≤ 255))
   else if k = 5 then decide (len = 1) && n == (next : Int)
   else if k = 6 then decide (len = 1)
   else false)
mutual
def Nd.form : Nd → Nat → Option Nat
  | .mk k s lo hi n l, next => if fieldsOk k s lo hi n l.length next then forms k l (if k = 5 then next + 1 else next) else none
def forms (k : Int) : List Nd → Nat → Option Nat
  | [], next => some next
  | x :: l, next => if within k x.kind then (x.form next).bind (forms k l) else none
end
def goodP (root : Nd) (groups : Int) : Bool :=
  decide (root.count ≤ 2000) && decide (root.deep ≤ 64) && (match root.form 1 with | some m => groups == (m : Int) - 1 && decide (groups ≤ 32) | none => false)
theorem form_mk (k : Int) (s : BitVec 256) (lo hi n : Int) (l : List Nd) (next : Nat) : (Nd.mk k s lo hi n l).form next = if fieldsOk k s lo hi n l.length next then forms k l (if k = 5 then next + 1 else next) else none := by rw [Nd.form]
theorem forms_cons (k : Int) (x : Nd) (l : List Nd) (next : Nat) : forms k (x :: l) next = if within k x.kind then (x.form next).bind (forms k l) else none := by rw [forms]
theorem forms_nil (k : Int) (next : Nat) : forms k [] next = some next := by rw [forms]
/-- a pattern in a bracket -/
theorem form_bracket (x : Nd) (next : Nat) : (Nd.mk 6 0 0 0 0 [x]).form next = x.form next := by
  rw [form_mk, if_pos (by simp [fieldsOk]), if_neg (by decide), forms_cons, if_pos (by simp [within])]
  cases x.form next with
  | none => rfl
  | some m => exact forms_nil 6 m
theorem good_bracket (x : Nd) (groups : Int) (h : goodP x groups = true) : goodP (.mk 6 0 0 0 0 [x]) groups = (decide (x.deep < 64) && decide (x.count < 2000)) := by
  unfold goodP at h ⊢
  rw [form_bracket]
  simp only [Bool.and_eq_true, decide_eq_true_eq] at h
  obtain ⟨⟨h1, h2⟩, h3⟩ := h
  rw [h3, Bool.and_true, count_mk, deep_mk]
  rw [show counts [x] = x.count from by rw [counts, counts]; omega, show deeps [x] = x.deep from by rw [deeps, deeps]; omega]
  rw [Bool.eq_iff_iff]
  simp only [Bool.and_eq_true, decide_eq_true_eq]
  omega
theorem good_size {x : Nd} {groups : Int} (h : goodP x groups = true) : x.count ≤ 2000 ∧ x.deep ≤ 64 := by
  unfold goodP at h
  simp only [Bool.and_eq_true, decide_eq_true_eq] at h
  exact h.1
/-- a valid set has no nodes -/
theorem good_set {x : Nd} {groups : Int} (h : goodP x groups = true) (hk : x.kind = 1) : x.nodes = [] := by
  unfold goodP at h
  simp only [Bool.and_eq_true] at h
  have h3 := h.2
  cases x with
  | mk k s lo hi n l =>
    have hk' : k = 1 := hk
    subst hk'
    cases hf : (Nd.mk 1 s lo hi n l).form 1 with
    | none => rw [hf] at h3; cases h3
    | some m =>
      rw [form_mk] at hf
      split at hf
      · rename_i hfo
        simp [fieldsOk] at hfo
        show l = []
        exact hfo.2.2
      · cases hf
/-- the samples of the chapter, and what may not be -/
def oneN (b : Nat) : Nd := .mk 1 (oneB b) 0 0 0 []
where oneB (b : Nat) : BitVec 256 := setOf [b]
theorem tree_samples : (Nd.mk 2 0 0 0 0 [oneN 97, oneN 98]).count = 3 ∧ goodP (.mk 2 0 0 0 0 [oneN 97, oneN 98]) 0 = true ∧ (Nd.mk 2 0 0 0 0 [oneN 97, oneN 98]).sets.length = 2 ∧
    goodP (.mk 2 0 0 0 0 [oneN 97]) 0 = false ∧ goodP (.mk 5 0 0 0 1 [oneN 97]) 1 = true ∧ goodP (.mk 5 0 0 0 1 [oneN 97]) 0 = false ∧ goodP (.mk 5 0 0 0 2 [oneN 97]) 1 = false ∧
    goodP (.mk 4 0 0 (-1) 0 [oneN 97]) 0 = true ∧ goodP (.mk 4 0 2 1 0 [oneN 97]) 0 = false := by decide +kernel
end Go.Proofs.Ytaanhijjhllckaa
