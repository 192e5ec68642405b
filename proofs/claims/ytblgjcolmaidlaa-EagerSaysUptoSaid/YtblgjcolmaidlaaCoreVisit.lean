/- core.visit: the nodes of a node, in the order in which they begin, as many as may be: what it does, of whatever rounds. -/
import Derived.Test.YtblgjcolmaidlaaTreeOps
import Derived.Test.YtblgjcolmaidlaaCoreBig
namespace Go.Proofs.Ytblgjcolmaidlaa
namespace K
set_option maxRecDepth 100000
open Go.RowKit Go.Shelf

attribute [local go_sem] Oper.semAt_some

/-! the nodes in the order in which they begin -/
mutual
def Cr.pre : Cr → List Cr
  | .mk k s n l => .mk k s n l :: pres l
def pres : List Cr → List Cr
  | [] => []
  | x :: l => x.pre ++ pres l
end
theorem pre_mk (k : Int) (s : BitVec 256) (n : Int) (l : List Cr) : (Cr.mk k s n l).pre = .mk k s n l :: pres l := by rw [Cr.pre]
theorem pres_cons (x : Cr) (l : List Cr) : pres (x :: l) = x.pre ++ pres l := by rw [pres]
theorem pres_nil : pres [] = [] := by rw [pres]
mutual
theorem Cr.pre_length : ∀ x : Cr, x.pre.length = x.count
  | .mk k s n l => by rw [pre_mk, count_mk, List.length_cons, pres_length l]; omega
theorem pres_length : ∀ l : List Cr, (pres l).length = counts l
  | [] => by rw [pres_nil, counts_nil]; rfl
  | x :: l => by rw [pres_cons, counts_cons, List.length_append, Cr.pre_length x, pres_length l]
end
theorem pres_append (l m : List Cr) : pres (l ++ m) = pres l ++ pres m := by
  induction l with
  | nil => rw [pres_nil]; rfl
  | cons x l ih => rw [List.cons_append, pres_cons, pres_cons, ih, List.append_assoc]
theorem counts_append (l m : List Cr) : counts (l ++ m) = counts l + counts m := by
  rw [← pres_length, ← pres_length, ← pres_length, pres_append, List.length_append]
/-- a node with its cells, in a world -/
abbrev NV (W0 : World) := { p : Cr × List Value // Cr.at W0 p.1 p.2 }
/-- the nodes that have come -/
def nds {W0 : World} (q : List (NV W0)) : List Cr := q.map (·.1.1)
theorem nds_append {W0 : World} (q r : List (NV W0)) : nds (q ++ r) = nds q ++ nds r := List.map_append
/-- as far as the first j nodes in a node reach -/
def fore (x : Cr) (j left : Nat) : List Cr := (x :: pres (x.nodes.take j)).take left
theorem fore_zero (x : Cr) {left : Nat} (h : 1 ≤ left) : fore x 0 left = [x] := by
  unfold fore
  rw [List.take_zero, pres_nil, List.take_of_length_le (by simpa using h)]
theorem fore_all (x : Cr) (left : Nat) : fore x x.nodes.length left = x.pre.take left := by
  unfold fore
  rw [List.take_length]
  cases x with
  | mk k s n l => rw [pre_mk]; rfl
theorem counts_take_le (l : List Cr) (j : Nat) : counts (l.take j) ≤ counts l := by
  have h := counts_append (l.take j) (l.drop j)
  rw [List.take_append_drop] at h
  omega
theorem fore_full (x : Cr) (j left : Nat) (h : left ≤ 1 + counts (x.nodes.take j)) : fore x j left = x.pre.take left := by
  unfold fore
  have hp : x.pre = (x :: pres (x.nodes.take j)) ++ pres (x.nodes.drop j) := by
    rw [List.cons_append, ← pres_append, List.take_append_drop]
    cases x with
    | mk k s n l => rw [pre_mk]; rfl
  rw [hp, List.take_append_of_le_length (by rw [List.length_cons, pres_length]; omega)]
theorem take_succ_counts (l : List Cr) (j : Nat) (hj : j < l.length) : counts (l.take (j + 1)) = counts (l.take j) + l[j].count := by
  rw [List.take_succ_eq_append_getElem hj, counts_append, counts_cons, counts_nil]; rfl
theorem fore_succ (x : Cr) (j left : Nat) (hj : j < x.nodes.length) :
    fore x (j + 1) left = fore x j left ++ (x.nodes[j].pre).take (left - (1 + counts (x.nodes.take j))) := by
  unfold fore
  rw [List.take_succ_eq_append_getElem hj, pres_append, pres_cons, pres_nil, List.append_nil, ← List.cons_append, List.take_append]
  rw [List.length_cons, pres_length, Nat.add_comm (counts _) 1]
theorem fore_prefix (x : Cr) (j left : Nat) : fore x j left <+: x.pre.take left := by
  unfold fore
  have hp : x.pre = (x :: pres (x.nodes.take j)) ++ pres (x.nodes.drop j) := by
    rw [List.cons_append, ← pres_append, List.take_append_drop]
    cases x with
    | mk k s n l => rw [pre_mk]; rfl
  rw [hp, List.take_append]
  exact List.prefix_append _ _
theorem fore_length (x : Cr) (j left : Nat) : (fore x j left).length = min left (1 + counts (x.nodes.take j)) := by
  unfold fore
  rw [List.length_take, List.length_cons, pres_length]; omega
theorem nums_len {left c p qn : Nat} (hp : ¬ p = 0) (hp' : p = left - (1 + c)) (h : qn = min left (1 + c)) : qn = 1 + c := by omega
theorem nums_fit {left c p N a : Nat} (hp : ¬ p = 0) (hp' : p = left - (1 + c)) (h : a + left ≤ N) : a + (1 + c) + p ≤ N := by omega
theorem nums_le {left c p : Nat} (hp' : p = left - (1 + c)) (h : left ≤ 100000) : p ≤ 100000 := by omega
theorem nums_next {left c p d e : Nat} (h1 : e = c + d) (h2 : p = left - (1 + c)) : p - d = left - (1 + e) := by omega
/-- what a call of visit ends in -/
def VisitPost {W0 : World} (J Jx : List (NV W0) → World → Prop) (x : Cr) (pre : List (NV W0)) (left : Nat) (e : Ending) (W' : World) : Prop :=
  (∃ q : List (NV W0), nds q = x.pre.take left ∧ e = .returned (.int .i64 ((left - x.count : Nat) : Int)) ∧ J (pre ++ q) W') ∨
  (e = .returned (.int .i64 0) ∧ ∃ q : List (NV W0), nds q <+: x.pre.take left ∧ Jx (pre ++ q) W')
end K
end Go.Proofs.Ytblgjcolmaidlaa
