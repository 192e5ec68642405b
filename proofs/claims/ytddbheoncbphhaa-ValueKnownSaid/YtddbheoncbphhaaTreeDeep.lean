/- tree.Depth and tree.Same, walked. -/
import Derived.Test.YtddbheoncbphhaaTreeKinds
namespace Go.Proofs.Ytddbheoncbphhaa
set_option maxRecDepth 100000
open Go.RowKit
theorem deeps_cons (x : Nd) (l : List Nd) : deeps (x :: l) = max x.deep (deeps l) := by rw [deeps]
theorem deeps_nil : deeps [] = 0 := by rw [deeps]
theorem deeps_append (l m : List Nd) : deeps (l ++ m) = max (deeps l) (deeps m) := by
  induction l with
  | nil => rw [deeps_nil, List.nil_append]; omega
  | cons x l ih => rw [List.cons_append, deeps_cons, deeps_cons, ih]; omega
theorem deeps_take_succ (l : List Nd) (j : Nat) (hj : j < l.length) : deeps (l.take (j + 1)) = max (deeps (l.take j)) l[j].deep := by
  rw [List.take_succ_eq_append_getElem hj, deeps_append, deeps_cons, deeps_nil]; omega
theorem deeps_take_le (l : List Nd) (j : Nat) : deeps (l.take j) ≤ deeps l := by
  have h := deeps_append (l.take j) (l.drop j)
  rw [List.take_append_drop] at h
  omega
theorem dnum_stop {d t D f : Nat} (hd : d = min (1 + t) (f + 1)) (h : d = f + 1) (ht : t ≤ D) : f + 1 = min (1 + D) (f + 1) := by omega
theorem dnum_next {d t g c t' : Nat} (hd : d = min (1 + t) (g + 1 + 1)) (hne : ¬ d = g + 1 + 1) (ht : t' = max t c) : max d (1 + min c (g + 1)) = min (1 + t') (g + 1 + 1) := by omega
theorem dnum_le {d t f : Nat} (hd : d = min (1 + t) (f + 1)) : 1 ≤ d ∧ d ≤ f + 1 := by omega
theorem dnum_zero {d t : Nat} (hd : d = min (1 + t) (0 + 1)) : d = 0 + 1 := by omega
end Go.Proofs.Ytddbheoncbphhaa
