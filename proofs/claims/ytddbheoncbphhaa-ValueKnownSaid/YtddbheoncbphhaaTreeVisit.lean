/- tree.visit: the nodes of a node, in the order in which they begin, as many as may be: what it does, of whatever rounds. -/
import Derived.Test.YtddbheoncbphhaaHeld
import Derived.Test.YtddbheoncbphhaaTreeHeavy
namespace Go.Proofs.Ytddbheoncbphhaa
set_option maxRecDepth 100000
open Go.RowKit Go.Shelf

attribute [local go_sem] Oper.semAt_some

/-! the nodes in the order in which they begin -/
mutual
def Nd.pre : Nd → List Nd
  | .mk k s lo hi n l => .mk k s lo hi n l :: pres l
def pres : List Nd → List Nd
  | [] => []
  | x :: l => x.pre ++ pres l
end
theorem pre_mk (k : Int) (s : BitVec 256) (lo hi n : Int) (l : List Nd) : (Nd.mk k s lo hi n l).pre = .mk k s lo hi n l :: pres l := by rw [Nd.pre]
theorem pres_cons (x : Nd) (l : List Nd) : pres (x :: l) = x.pre ++ pres l := by rw [pres]
theorem pres_nil : pres [] = [] := by rw [pres]
theorem counts_cons (x : Nd) (l : List Nd) : counts (x :: l) = x.count + counts l := by rw [counts]
theorem counts_nil : counts [] = 0 := by rw [counts]
mutual
theorem Nd.pre_length : ∀ x : Nd, x.pre.length = x.count
  | .mk k s lo hi n l => by rw [pre_mk, count_mk, List.length_cons, pres_length l]; omega
theorem pres_length : ∀ l : List Nd, (pres l).length = counts l
  | [] => by rw [pres_nil, counts_nil]; rfl
  | x :: l => by rw [pres_cons, counts_cons, List.length_append, Nd.pre_length x, pres_length l]
end
theorem pres_append (l m : List Nd) : pres (l ++ m) = pres l ++ pres m := by
  induction l with
  | nil => rw [pres_nil]; rfl
  | cons x l ih => rw [List.cons_append, pres_cons, pres_cons, ih, List.append_assoc]
theorem counts_append (l m : List Nd) : counts (l ++ m) = counts l + counts m := by
  rw [← pres_length, ← pres_length, ← pres_length, pres_append, List.length_append]
/-- a node with its cells, in a world -/
abbrev NV (W0 : World) := { p : Nd × List Value // Nd.at W0 p.1 p.2 }
/-- the nodes that have come -/
def nds {W0 : World} (q : List (NV W0)) : List Nd := q.map (·.1.1)
theorem nds_append {W0 : World} (q r : List (NV W0)) : nds (q ++ r) = nds q ++ nds r := List.map_append
/-- as far as the first j nodes in a node reach -/
def fore (x : Nd) (j left : Nat) : List Nd := (x :: pres (x.nodes.take j)).take left
theorem fore_zero (x : Nd) {left : Nat} (h : 1 ≤ left) : fore x 0 left = [x] := by
  unfold fore
  rw [List.take_zero, pres_nil, List.take_of_length_le (by simpa using h)]
theorem fore_all (x : Nd) (left : Nat) : fore x x.nodes.length left = x.pre.take left := by
  unfold fore
  rw [List.take_length]
  cases x with
  | mk k s lo hi n l => rw [pre_mk]; rfl
theorem counts_take_le (l : List Nd) (j : Nat) : counts (l.take j) ≤ counts l := by
  have h := counts_append (l.take j) (l.drop j)
  rw [List.take_append_drop] at h
  omega
theorem fore_full (x : Nd) (j left : Nat) (h : left ≤ 1 + counts (x.nodes.take j)) : fore x j left = x.pre.take left := by
  unfold fore
  have hp : x.pre = (x :: pres (x.nodes.take j)) ++ pres (x.nodes.drop j) := by
    rw [List.cons_append, ← pres_append, List.take_append_drop]
    cases x with
    | mk k s lo hi n l => rw [pre_mk]; rfl
  rw [hp, List.take_append_of_le_length (by rw [List.length_cons, pres_length]; omega)]
theorem take_succ_counts (l : List Nd) (j : Nat) (hj : j < l.length) : counts (l.take (j + 1)) = counts (l.take j) + l[j].count := by
  rw [List.take_succ_eq_append_getElem hj, counts_append, counts_cons, counts_nil]; rfl
theorem fore_succ (x : Nd) (j left : Nat) (hj : j < x.nodes.length) :
    fore x (j + 1) left = fore x j left ++ (x.nodes[j].pre).take (left - (1 + counts (x.nodes.take j))) := by
  unfold fore
  rw [List.take_succ_eq_append_getElem hj, pres_append, pres_cons, pres_nil, List.append_nil, ← List.cons_append, List.take_append]
  rw [List.length_cons, pres_length, Nat.add_comm (counts _) 1]
theorem fore_prefix (x : Nd) (j left : Nat) : fore x j left <+: x.pre.take left := by
  unfold fore
  have hp : x.pre = (x :: pres (x.nodes.take j)) ++ pres (x.nodes.drop j) := by
    rw [List.cons_append, ← pres_append, List.take_append_drop]
    cases x with
    | mk k s lo hi n l => rw [pre_mk]; rfl
  rw [hp, List.take_append]
  exact List.prefix_append _ _
theorem fore_length (x : Nd) (j left : Nat) : (fore x j left).length = min left (1 + counts (x.nodes.take j)) := by
  unfold fore
  rw [List.length_take, List.length_cons, pres_length]; omega
theorem nums_len {left c p qn : Nat} (hp : ¬ p = 0) (hp' : p = left - (1 + c)) (h : qn = min left (1 + c)) : qn = 1 + c := by omega
theorem nums_fit {left c p N a : Nat} (hp : ¬ p = 0) (hp' : p = left - (1 + c)) (h : a + left ≤ N) : a + (1 + c) + p ≤ N := by omega
theorem nums_le {left c p : Nat} (hp' : p = left - (1 + c)) (h : left ≤ 100000) : p ≤ 100000 := by omega
theorem nums_next {left c p d e : Nat} (h1 : e = c + d) (h2 : p = left - (1 + c)) : p - d = left - (1 + e) := by omega
/-- what a call of visit ends in -/
def VisitPost {W0 : World} (J Jx : List (NV W0) → World → Prop) (x : Nd) (pre : List (NV W0)) (left : Nat) (e : Ending) (W' : World) : Prop :=
  (∃ q : List (NV W0), nds q = x.pre.take left ∧ e = .returned (.int .i64 ((left - x.count : Nat) : Int)) ∧ J (pre ++ q) W') ∨
  (e = .returned (.int .i64 0) ∧ ∃ q : List (NV W0), nds q <+: x.pre.take left ∧ Jx (pre ++ q) W')
end Go.Proofs.Ytddbheoncbphhaa
