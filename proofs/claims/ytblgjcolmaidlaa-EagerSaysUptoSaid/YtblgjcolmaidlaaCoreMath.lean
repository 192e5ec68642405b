/- The plain mathematics of cores: what one is, how many parts, whether two are the same, which may be. -/
import Derived.Test.YtblgjcolmaidlaaTreeMath
namespace Go.Proofs.Ytblgjcolmaidlaa
namespace K
set_option maxRecDepth 100000
open Go.RowKit

/-- a core: kind, set, number, elements -/
inductive Cr where
  | mk (kind : Int) (set : BitVec 256) (n : Int) (l : List Cr)
def Cr.kind : Cr → Int
  | .mk k _ _ _ => k
def Cr.nodes : Cr → List Cr
  | .mk _ _ _ l => l
mutual
def Cr.count : Cr → Nat
  | .mk _ _ _ l => 1 + counts l
def counts : List Cr → Nat
  | [] => 0
  | x :: l => x.count + counts l
end
theorem count_mk (k : Int) (s : BitVec 256) (n : Int) (l : List Cr) : (Cr.mk k s n l).count = 1 + counts l := by rw [Cr.count]
theorem counts_cons (x : Cr) (l : List Cr) : counts (x :: l) = x.count + counts l := by rw [counts]
theorem counts_nil : counts [] = 0 := by rw [counts]
theorem Cr.count_pos (x : Cr) : 0 < x.count := by
  cases x; rw [count_mk]; omega
theorem counts_mem {l : List Cr} {x : Cr} (h : x ∈ l) : x.count ≤ counts l := by
  induction l with
  | nil => simp at h
  | cons y l ih =>
    unfold counts
    rcases List.mem_cons.mp h with rfl | h
    · omega
    · have := ih h; omega
theorem count_mem {x y : Cr} (h : y ∈ x.nodes) : y.count < x.count := by
  cases x with
  | mk k s n l =>
    rw [count_mk]
    have := counts_mem (show y ∈ l from h)
    omega
def sizeOfC (x : Cr) : Nat := min x.count 100000
/-! whether two are equal -/
mutual
def Cr.same : Cr → Cr → Bool
  | .mk k s n l, .mk k' s' n' l' => decide (k = k') && decide (s = s') && decide (n = n') && sames l l'
def sames : List Cr → List Cr → Bool
  | [], [] => true
  | x :: l, y :: m => x.same y && sames l m
  | _, _ => false
end
mutual
theorem Cr.same_refl : ∀ x : Cr, x.same x = true
  | .mk _ _ _ l => by unfold Cr.same; simp [sames_refl l]
theorem sames_refl : ∀ l : List Cr, sames l l = true
  | [] => rfl
  | x :: l => by unfold sames; rw [Cr.same_refl x, sames_refl l]; rfl
end
mutual
theorem Cr.same_eq : ∀ x y : Cr, x.same y = true → x = y
  | .mk _ _ _ l, .mk _ _ _ l', h => by
    unfold Cr.same at h
    simp only [Bool.and_eq_true, decide_eq_true_eq] at h
    obtain ⟨⟨⟨rfl, rfl⟩, rfl⟩, h⟩ := h
    rw [sames_eq l l' h]
theorem sames_eq : ∀ l m : List Cr, sames l m = true → l = m
  | [], [], _ => rfl
  | [], _ :: _, h => by simp [sames] at h
  | _ :: _, [], h => by simp [sames] at h
  | x :: l, y :: m, h => by
    unfold sames at h
    rw [Bool.and_eq_true] at h
    rw [Cr.same_eq x y h.1, sames_eq l m h.2]
end
/-! which may be -/
/-- a part's own fields -/
def partOk (k : Int) (s : BitVec 256) (n : Int) (len : Nat) : Bool :=
  (k == 2 || decide (s = 0)) && (k == 6 || n == 0) &&
  (if k = 0 ∨ k = 1 ∨ k = 2 then decide (len = 0) else if k = 3 ∨ k = 4 then decide (len = 2) else if k = 5 ∨ k = 7 then decide (len = 1) else if k = 6 then decide (len = 1) && decide (1 ≤ n) && decide (n ≤ 32) else false)
def Cr.ok : Cr → Bool
  | .mk k s n l => partOk k s n l.length
mutual
def Cr.form : Cr → Bool
  | .mk k s n l => partOk k s n l.length && forms l
def forms : List Cr → Bool
  | [] => true
  | x :: l => x.form && forms l
end
theorem form_mk (k : Int) (s : BitVec 256) (n : Int) (l : List Cr) : (Cr.mk k s n l).form = (partOk k s n l.length && forms l) := by rw [Cr.form]
theorem forms_cons (x : Cr) (l : List Cr) : forms (x :: l) = (x.form && forms l) := by rw [forms]
theorem forms_nil : forms [] = true := by rw [forms]
def goodC (x : Cr) : Bool := decide (x.count ≤ 2000) && x.form
end K
end Go.Proofs.Ytblgjcolmaidlaa
