/- What law 5's TreeKnown asks of its good nodes; nodes that lie in blocks of their own. -/
import Derived.Test.YtjfenbjamlflcaaNodeAppend
import Derived.Test.YtjfenbjamlflcaaTreeBad
namespace Go.Proofs.Ytjfenbjamlflcaa
set_option maxRecDepth 100000
open Go.RowKit
def nestN (S : BitVec 256) : Nat → Nd
  | 0 => nA S
  | j + 1 => .mk 6 0 0 0 0 [nestN S j]
def nG (S : BitVec 256) : Nd := .mk 5 0 0 0 1 [nA S]
def nH (S : BitVec 256) : Nd := .mk 5 0 0 0 2 [nA S]
def n6 (S : BitVec 256) : Nd := .mk 2 0 0 0 0 [.mk 5 0 0 0 1 [nH S], .mk 5 0 0 0 3 [nA S]]
def n7 (S : BitVec 256) : Nd := .mk 2 0 0 0 0 [.mk 5 0 0 0 2 [nG S], nA S]
def nD (S : BitVec 256) : Nd := nestN S 63
def nM (S : BitVec 256) : Nd := .mk 6 0 0 0 0 [nD S]
def nB (S : BitVec 256) : Nd := .mk 2 0 0 0 0 (List.replicate 2000 (nA S))
theorem counts_rep (S : BitVec 256) : ∀ n, counts (List.replicate n (nA S)) = n
  | 0 => by rw [List.replicate_zero]; unfold counts; rfl
  | n + 1 => by
    rw [List.replicate_succ]
    unfold counts
    rw [counts_rep S n, nA, count_mk]
    unfold counts
    omega
theorem count_nB (S : BitVec 256) : (nB S).count = 2001 := by rw [nB, count_mk, counts_rep]
structure Known (S : BitVec 256) : Prop where
  k1 : goodP (nOf S) 0 = true
  k2 : goodP (nRep S) 0 = true
  k3 : goodP (nG S) 1 = true
  k4 : goodP (nG S) 0 = false
  k5 : goodP (nH S) 1 = false
  k6 : goodP (n6 S) 3 = true
  k7 : goodP (n7 S) 2 = false
  k8 : goodP (nD S) 0 = true
  k9 : depthOfN (nD S) = 64
  k10 : goodP (nM S) 0 = false
  k11 : depthOfN (nM S) = 65
  k12 : goodP (nB S) 0 = false
  k13 : sizeOfN (nB S) = 2001
  k14 : (nOf S).same (nOf S) = true
  k15 : (nOf S).same (nRep S) = false
  k16 : (accN ((nOf S).pre.take 100000) []).length = 1
theorem known_all : Known (oneSet 97) where
  k1 := by decide +kernel
  k2 := by decide +kernel
  k3 := by decide +kernel
  k4 := by decide +kernel
  k5 := by decide +kernel
  k6 := by decide +kernel
  k7 := by decide +kernel
  k8 := by decide +kernel
  k9 := by decide +kernel
  k10 := by decide +kernel
  k11 := by decide +kernel
  k12 := by unfold goodP; rw [count_nB]; rfl
  k13 := by unfold sizeOfN; rw [count_nB]; rfl
  k14 := by decide +kernel
  k15 := by decide +kernel
  k16 := by decide +kernel
theorem below_dead {wr w3 : World} {B : Nat} {row : Obj} (h : Only B (wr.alloc row) w3) (hB : B < wr.heap.size) : Below wr.heap.size (wr.putObj B (.deferred none)) (w3.putObj B (.deferred none)) := by
  have hs : w3.heap.size = wr.heap.size + 1 := by rw [h.size]; simp
  refine ⟨h.os, h.tape, h.output, by simp [hs], fun k hk => ?_⟩
  by_cases hkB : k = B
  · subst hkB
    rw [World.putObj_heap_same (by omega), World.putObj_heap_same hB]
  · rw [World.putObj_heap_other hkB, World.putObj_heap_other hkB, h.block k hkB]
    exact Below.heap_alloc _ _ _ hk
/-- a node in a block of its own, from a world on -/
def BoxN (w : World) (b : Nat) (x : Nd) (cs : List Value) : Prop := ∀ w', Below w.heap.size w w' → Node9 w' b 0 cs ∧ Nd.at w' x cs
theorem BoxN.later {w w1 : World} {b : Nat} {x : Nd} {cs : List Value} (h : BoxN w b x cs) (hb : Below w.heap.size w w1) : BoxN w1 b x cs := fun w' h' => h w' (hb.trans (h'.mono hb.size))
theorem box_in {w : World} {b : Nat} {x : Nd} {cs : List Value} (h : NodeIn w b cs.toArray) (hx : Nd.at w x cs) : BoxN w b x cs := fun w' hb => by
  have hlt := (Array.getElem?_eq_some_iff.1 h).1
  have hn : NodeIn w' b cs.toArray := (hb.block b hlt).trans h
  exact ⟨node9_in hn (at_len hx), Nd.at_below hb (Nat.le_refl _) _ _ hx⟩
theorem BoxN.cells {w : World} {b : Nat} {x : Nd} {cs : List Value} (h : BoxN w b x cs) : ∃ (k : Int) (s : BitVec 256) (lo hi n : Int) (a : Option Addr) (len cap : Nat), cs = [.int .i64 k, .int .u64 (word s 0), .int .u64 (word s 1), .int .u64 (word s 2), .int .u64 (word s 3), .int .i64 lo, .int .i64 hi, .int .i64 n, .slice a len cap] := by
  obtain ⟨s, lo, hi, n, a, cap, _, e⟩ := at_cells (h w (Below.refl _ _)).2
  exact ⟨_, s, lo, hi, n, a, _, cap, e⟩
theorem BoxN.cells' {W : World} {x : Nd} {cs : List Value} (h : Nd.at W x cs) : ∃ (k : Int) (s : BitVec 256) (lo hi n : Int) (a : Option Addr) (len cap : Nat), cs = [.int .i64 k, .int .u64 (word s 0), .int .u64 (word s 1), .int .u64 (word s 2), .int .u64 (word s 3), .int .i64 lo, .int .i64 hi, .int .i64 n, .slice a len cap] := by
  obtain ⟨s, lo, hi, n, a, cap, _, e⟩ := at_cells h
  exact ⟨_, s, lo, hi, n, a, _, cap, e⟩
theorem at_pair {W : World} {X Y : Nd} {c d : List Value} (hX : Nd.at W X c) (hY : Nd.at W Y d) :
    Nd.at (W.alloc (.cells (c ++ d).toArray 28)) (.mk 2 0 0 0 0 [X, Y]) [.int .i64 2, .int .u64 0, .int .u64 0, .int .u64 0, .int .u64 0, .int .i64 0, .int .i64 0, .int .i64 0, .slice (some ⟨W.heap.size, 0, none⟩) 2 2] := by
  have hb : Below W.heap.size W (W.alloc (.cells (c ++ d).toArray 28)) := (Below.refl _ _).alloc (Nat.le_refl _) _
  refine at_made (k := 2) (lo := 0) (hi := 0) (n := 0) (by rfl) (by rfl) (by rfl) (by rfl) [(X, c), (Y, d)] (by simp [maxLen]) ?_ ?_
  · simp only [List.forall_mem_cons]
    exact ⟨Nd.at_below hb (Nat.le_refl _) _ _ hX, Nd.at_below hb (Nat.le_refl _) _ _ hY, fun p hp => by cases hp⟩
  · have h := World.alloc_heap_new W (.cells (c ++ d).toArray 28)
    simpa using h
theorem node_frozen {w : World} {b : Nat} {cs : Array Value} (h : NodeIn w b cs) (o : Nat) : w.frozen? ⟨b, o, none⟩ = false := by
  unfold NodeIn at h
  simp [World.frozen?, h]
theorem node_cell8 {w : World} {b : Nat} {v0 v1 v2 v3 v4 v5 v6 v7 v : Value} (h : NodeIn w b #[v0, v1, v2, v3, v4, v5, v6, v7, v]) : w.cell? ⟨b, 8, none⟩ = some v := by
  rw [cells_at h]; rfl
theorem rep_cells (p : Nd × List Value) (j : Nat) : (List.replicate (j + 1) p).flatMap (·.2) = (List.replicate j p).flatMap (·.2) ++ p.2 := by
  rw [List.replicate_succ', List.flatMap_append]; simp
theorem box_big {w : World} {base b : Nat} {S : BitVec 256} {cA : List Value} {v : Value} (hA : Nd.at w (nA S) cA) (ho : w.ownsRow base 28 9 v 2000 ((List.replicate 2000 (nA S, cA)).flatMap (·.2)))
    (hn : NodeIn w b #[.int .i64 2, .int .u64 0, .int .u64 0, .int .u64 0, .int .u64 0, .int .i64 0, .int .i64 0, .int .i64 0, v]) :
    ∃ g cap, BoxN w b (nB S) [.int .i64 2, .int .u64 0, .int .u64 0, .int .u64 0, .int .u64 0, .int .i64 0, .int .i64 0, .int .i64 0, .slice (some ⟨g, 0, none⟩) 2000 cap] := by
  obtain ⟨g, cap, rfl, _, hg, hc, hm, hrow⟩ := nodesAt_owns (List.replicate 2000 (nA S, cA)) (fun p hp => by obtain rfl := List.eq_of_mem_replicate hp; exact hA) (by rw [List.length_replicate]) (by decide) ho
  refine ⟨g, cap, box_in hn ?_⟩
  rw [List.map_replicate] at hrow
  rw [nB, at_mk]
  refine ⟨by rfl, by rfl, by rfl, by rfl, some ⟨g, 0, none⟩, cap, ?_, by rw [List.length_replicate]; exact hm, .inr ⟨g, 0, rfl, by rw [List.length_replicate]; exact hc, hg, hrow⟩⟩
  rw [List.length_replicate, word_zero, word_zero, word_zero, word_zero]
  rfl
end Go.Proofs.Ytjfenbjamlflcaa
