/- The sixteen nodes of law 5's TreeKnown that may not be: a region whose slices may be made in any order. -/
import Derived.Test.YtjfenbjamlflcaaTreeMade
import Derived.Test.YtjfenbjamlflcaaText
namespace Go.Proofs.Ytjfenbjamlflcaa
set_option maxRecDepth 100000
open Go.RowKit
def nA (S : BitVec 256) : Nd := .mk 1 S 0 0 0 []
def nRow (S : BitVec 256) : Nd := .mk 2 0 0 0 0 [nA S, nA S]
def nOf (S : BitVec 256) : Nd := .mk 3 0 0 0 0 [nA S, nRow S]
def nRep (S : BitVec 256) : Nd := .mk 4 0 0 (-1) 0 [nA S]
def badL (S : BitVec 256) : List Nd := [(.mk 0 0 0 0 0 []), (.mk 1 0 0 0 0 []), (.mk 7 0 0 0 0 []), (.mk 1 S 0 0 1 []), (.mk 2 0 0 0 0 [nA S]), (.mk 3 0 0 0 0 [nA S]), (.mk 2 0 0 0 0 [nA S, nRow S]), (.mk 2 0 0 0 0 [nA S, nOf S]), (.mk 3 0 0 0 0 [nA S, nOf S]), (.mk 4 0 0 0 0 [nRep S]), (.mk 4 0 0 0 0 [nRow S]), (.mk 4 0 2 1 0 [nA S]), (.mk 4 0 256 (-1) 0 [nA S]), (.mk 4 0 0 (-2) 0 [nA S]), (.mk 6 0 0 0 0 [nA S, nA S]), (.mk 6 0 0 0 1 [nA S])]
theorem bad_all : ∀ N ∈ badL (oneSet 97), goodP N 0 = false := by decide +kernel
/-! what an operation of the region hands back -/
def VNode' (N : Nd) (v : Value) (W : World) : Prop := ∃ cs : List Value, v = .agg cs.toArray ∧ Nd.at W N cs
def VRow (L : List Nd) (v : Value) (W : World) : Prop := ∃ b, v = .slice (some ⟨b, 0, none⟩) L.length L.length ∧ b < W.heap.size ∧ nodesAt W L b 0
def VBytes (v : Value) (W : World) : Prop := ∃ b, v = .slice (some ⟨b, 0, none⟩) 1 1 ∧ BytesAt W (some ⟨b, 0, none⟩) 1 1 [97]
def VSet (S : BitVec 256) (v : Value) (_ : World) : Prop := v = SV S
def badVal (S : BitVec 256) (i : Nat) : Value → World → Prop := ([VNode' (.mk 0 0 0 0 0 []), VNode' (.mk 1 0 0 0 0 []), VNode' (.mk 7 0 0 0 0 []), VBytes, VSet S, VNode' (.mk 1 S 0 0 1 []), VNode' (nA S), VRow [(nA S)], VNode' (.mk 2 0 0 0 0 [nA S]), VNode' (nA S), VRow [(nA S)], VNode' (.mk 3 0 0 0 0 [nA S]), VNode' (nA S), VNode' (nRow S), VRow [(nA S), (nRow S)], VNode' (.mk 2 0 0 0 0 [nA S, nRow S]), VNode' (nA S), VNode' (nOf S), VRow [(nA S), (nOf S)], VNode' (.mk 2 0 0 0 0 [nA S, nOf S]), VNode' (nA S), VNode' (nOf S), VRow [(nA S), (nOf S)], VNode' (.mk 3 0 0 0 0 [nA S, nOf S]), VNode' (nRep S), VRow [(nRep S)], VNode' (.mk 4 0 0 0 0 [nRep S]), VNode' (nRow S), VRow [(nRow S)], VNode' (.mk 4 0 0 0 0 [nRow S]), VNode' (nA S), VRow [(nA S)], VNode' (.mk 4 0 2 1 0 [nA S]), VNode' (nA S), VRow [(nA S)], VNode' (.mk 4 0 256 (-1) 0 [nA S]), VNode' (nA S), VRow [(nA S)], VNode' (.mk 4 0 0 (-2) 0 [nA S]), VNode' (nA S), VNode' (nA S), VRow [(nA S), (nA S)], VNode' (.mk 6 0 0 0 0 [nA S, nA S]), VNode' (nA S), VRow [(nA S)], VNode' (.mk 6 0 0 0 1 [nA S]), VRow (badL S), VRow (badL S)] : List (Value → World → Prop)).getD i (fun _ _ => True)
def Stable (p : Value → World → Prop) : Prop := ∀ v w w', p v w → Below w.heap.size w w' → p v w'
theorem stable_node (N : Nd) : Stable (VNode' N) := fun _ _ _ ⟨cs, h1, h2⟩ hb => ⟨cs, h1, Nd.at_below hb (Nat.le_refl _) _ _ h2⟩
theorem stable_row (L : List Nd) : Stable (VRow L) := fun _ _ _ ⟨b, h1, h2, h3⟩ hb => ⟨b, h1, Nat.lt_of_lt_of_le h2 hb.size, nodesAt_below hb (Nat.le_refl _) _ _ _ h2 h3⟩
theorem stable_bytes : Stable VBytes := fun _ _ _ ⟨b, h1, h2⟩ hb => ⟨b, h1, bytes_keep h2 hb⟩
theorem stable_set (S : BitVec 256) : Stable (VSet S) := fun _ _ _ h _ => h
theorem bad_stable (S : BitVec 256) (i : Nat) : Stable (badVal S i) := by
  unfold badVal
  have h : ∀ p ∈ ([VNode' (.mk 0 0 0 0 0 []), VNode' (.mk 1 0 0 0 0 []), VNode' (.mk 7 0 0 0 0 []), VBytes, VSet S, VNode' (.mk 1 S 0 0 1 []), VNode' (nA S), VRow [(nA S)], VNode' (.mk 2 0 0 0 0 [nA S]), VNode' (nA S), VRow [(nA S)], VNode' (.mk 3 0 0 0 0 [nA S]), VNode' (nA S), VNode' (nRow S), VRow [(nA S), (nRow S)], VNode' (.mk 2 0 0 0 0 [nA S, nRow S]), VNode' (nA S), VNode' (nOf S), VRow [(nA S), (nOf S)], VNode' (.mk 2 0 0 0 0 [nA S, nOf S]), VNode' (nA S), VNode' (nOf S), VRow [(nA S), (nOf S)], VNode' (.mk 3 0 0 0 0 [nA S, nOf S]), VNode' (nRep S), VRow [(nRep S)], VNode' (.mk 4 0 0 0 0 [nRep S]), VNode' (nRow S), VRow [(nRow S)], VNode' (.mk 4 0 0 0 0 [nRow S]), VNode' (nA S), VRow [(nA S)], VNode' (.mk 4 0 2 1 0 [nA S]), VNode' (nA S), VRow [(nA S)], VNode' (.mk 4 0 256 (-1) 0 [nA S]), VNode' (nA S), VRow [(nA S)], VNode' (.mk 4 0 0 (-2) 0 [nA S]), VNode' (nA S), VNode' (nA S), VRow [(nA S), (nA S)], VNode' (.mk 6 0 0 0 0 [nA S, nA S]), VNode' (nA S), VRow [(nA S)], VNode' (.mk 6 0 0 0 1 [nA S]), VRow (badL S), VRow (badL S)] : List (Value → World → Prop)), Stable p := by
    simp only [List.forall_mem_cons]
    exact ⟨stable_node _, stable_node _, stable_node _, stable_bytes, stable_set _, stable_node _, stable_node _, stable_row _, stable_node _, stable_node _, stable_row _, stable_node _, stable_node _, stable_node _, stable_row _, stable_node _, stable_node _, stable_node _, stable_row _, stable_node _, stable_node _, stable_node _, stable_row _, stable_node _, stable_node _, stable_row _, stable_node _, stable_node _, stable_row _, stable_node _, stable_node _, stable_row _, stable_node _, stable_node _, stable_row _, stable_node _, stable_node _, stable_row _, stable_node _, stable_node _, stable_node _, stable_row _, stable_node _, stable_node _, stable_row _, stable_node _, stable_row _, stable_row _, fun p hp => by cases hp⟩
  rw [List.getD_eq_getElem?_getD]
  cases hq : ([VNode' (.mk 0 0 0 0 0 []), VNode' (.mk 1 0 0 0 0 []), VNode' (.mk 7 0 0 0 0 []), VBytes, VSet S, VNode' (.mk 1 S 0 0 1 []), VNode' (nA S), VRow [(nA S)], VNode' (.mk 2 0 0 0 0 [nA S]), VNode' (nA S), VRow [(nA S)], VNode' (.mk 3 0 0 0 0 [nA S]), VNode' (nA S), VNode' (nRow S), VRow [(nA S), (nRow S)], VNode' (.mk 2 0 0 0 0 [nA S, nRow S]), VNode' (nA S), VNode' (nOf S), VRow [(nA S), (nOf S)], VNode' (.mk 2 0 0 0 0 [nA S, nOf S]), VNode' (nA S), VNode' (nOf S), VRow [(nA S), (nOf S)], VNode' (.mk 3 0 0 0 0 [nA S, nOf S]), VNode' (nRep S), VRow [(nRep S)], VNode' (.mk 4 0 0 0 0 [nRep S]), VNode' (nRow S), VRow [(nRow S)], VNode' (.mk 4 0 0 0 0 [nRow S]), VNode' (nA S), VRow [(nA S)], VNode' (.mk 4 0 2 1 0 [nA S]), VNode' (nA S), VRow [(nA S)], VNode' (.mk 4 0 256 (-1) 0 [nA S]), VNode' (nA S), VRow [(nA S)], VNode' (.mk 4 0 0 (-2) 0 [nA S]), VNode' (nA S), VNode' (nA S), VRow [(nA S), (nA S)], VNode' (.mk 6 0 0 0 0 [nA S, nA S]), VNode' (nA S), VRow [(nA S)], VNode' (.mk 6 0 0 0 1 [nA S]), VRow (badL S), VRow (badL S)] : List (Value → World → Prop))[i]? with
  | none => exact fun _ _ _ _ _ => trivial
  | some p => exact h p (List.mem_of_getElem? hq)
theorem eval_tmp {a : Act} {k : Nat} {v : Value} (h : a.tmps[k]? = some v) : a.eval (.tmp k) = v := by
  simp [Act.eval, h]
theorem wp_load_node {o : Oper} {a : Act} {w : World} {K : Act → World → Prop} {Q : Exit → Act → World → Prop} (x : Operand) (ho : o.op = .load 28 x)
    (b off : Nat) (cs : List Value) (hx : a.eval x = .pointer (some ⟨b, off, none⟩)) (hc : Node9 w b off cs) (h : K (a.put o.dst (.agg cs.toArray)) w) : o.wp Try.prog a w K Q := by
  unfold Oper.wp execOp
  simp only [ho, hx, Instr.loadAt, Instr.sureAddr, Sem.run_bind, Sem.run_pure, Result.andThen_ok, loadNode hc]
  exact h
/-- a node of a list that lies in memory -/
theorem at_row {W : World} {b : Nat} {k lo hi n : Int} (hk : fits64 k) (hlo : fits64 lo) (hhi : fits64 hi) (hn : fits64 n) (L : List Nd) (hL : L.length ≤ maxLen) (hb : b < W.heap.size) (h : nodesAt W L b 0) :
    Nd.at W (.mk k 0 lo hi n L) [.int .i64 k, .int .u64 0, .int .u64 0, .int .u64 0, .int .u64 0, .int .i64 lo, .int .i64 hi, .int .i64 n, .slice (some ⟨b, 0, none⟩) L.length L.length] := by
  rw [at_mk]
  refine ⟨hk, hlo, hhi, hn, some ⟨b, 0, none⟩, L.length, ?_, hL, .inr ⟨b, 0, rfl, Nat.le_refl _, hb, h⟩⟩
  simp only [word_zero]; rfl
end Go.Proofs.Ytjfenbjamlflcaa
