/- Nodes made of new lists; law 5's group. -/
import Derived.Test.YtaanhijjhllckaaTreeAwake
import Derived.Test.YtaanhijjhllckaaAnyInv
namespace Go.Proofs.Ytaanhijjhllckaa
set_option maxRecDepth 100000
open Go.RowKit
/-- a value that is a node, in a world -/
def VNode (W : World) (N : Nd) (v : Value) : Prop := ∃ cs : List Value, v = .agg cs.toArray ∧ cs.length = 9 ∧ Nd.at W N cs
theorem at_len {W : World} {N : Nd} {cs : List Value} (h : Nd.at W N cs) : cs.length = 9 := by
  obtain ⟨_, _, _, _, _, _, _, e⟩ := at_cells h
  rw [e]; rfl
theorem nodesAt_cells {W : World} {b : Nat} : ∀ (L : List (Nd × List Value)) (off : Nat), (∀ p ∈ L, Nd.at W p.1 p.2) → (∀ q, q < L.length * 9 → W.cell? ⟨b, off + q, none⟩ = (L.flatMap (·.2))[q]?) → nodesAt W (L.map (·.1)) b off
  | [], off, _, _ => by rw [List.map_nil, nodesAt_nil]; trivial
  | p :: L, off, h, hc => by
    rw [List.map_cons, nodesAt_cons]
    have hp := at_len (h p (by simp))
    refine ⟨⟨p.2, hp, fun q hq => ?_, h p (by simp)⟩, nodesAt_cells L (off + 9) (fun r hr => h r (by simp [hr])) fun q hq => ?_⟩
    · rw [hc q (by simp; omega), List.flatMap_cons, List.getElem?_append_left (by omega)]
    · rw [Nat.add_assoc, hc (9 + q) (by simp; omega), List.flatMap_cons, List.getElem?_append_right (by omega)]
      congr 1
      omega
/-- a node made of a new list of nodes -/
theorem at_made {W : World} {b : Nat} {k lo hi n : Int} (hk : fits64 k) (hlo : fits64 lo) (hhi : fits64 hi) (hn : fits64 n) (L : List (Nd × List Value)) (hL : L.length ≤ maxLen) (h : ∀ p ∈ L, Nd.at W p.1 p.2)
    (hb : W.heap[b]? = some (.cells (L.flatMap (·.2)).toArray 27)) :
    Nd.at W (.mk k 0 lo hi n (L.map (·.1))) [.int .i64 k, .int .u64 0, .int .u64 0, .int .u64 0, .int .u64 0, .int .i64 lo, .int .i64 hi, .int .i64 n, .slice (some ⟨b, 0, none⟩) L.length L.length] := by
  rw [at_mk]
  refine ⟨hk, hlo, hhi, hn, some ⟨b, 0, none⟩, L.length, ?_, by simpa using hL, .inr ⟨b, 0, rfl, by simp, (Array.getElem?_eq_some_iff.1 hb).1, nodesAt_cells L 0 h fun q _ => ?_⟩⟩
  · simp only [word_zero, List.length_map]; rfl
  · simp [World.cell?, hb]
theorem at_plain {W : World} {k lo hi n : Int} (s : BitVec 256) (hk : fits64 k) (hlo : fits64 lo) (hhi : fits64 hi) (hn : fits64 n) :
    Nd.at W (.mk k s lo hi n []) [.int .i64 k, .int .u64 (word s 0), .int .u64 (word s 1), .int .u64 (word s 2), .int .u64 (word s 3), .int .i64 lo, .int .i64 hi, .int .i64 n, .slice none 0 0] := by
  rw [at_mk]
  exact ⟨hk, hlo, hhi, hn, none, 0, rfl, by decide, .inl rfl⟩
mutual
/-- what is there in one world is there in the other: so is a node -/
theorem Nd.at_same {w w' : World} (h : ∀ p v, w.cell? p = some v → w'.cell? p = some v) (hs : w.heap.size ≤ w'.heap.size) : ∀ (x : Nd) (cs : List Value), Nd.at w x cs → Nd.at w' x cs
  | .mk k s lo hi n l, cs, ha => by
    rw [at_mk] at ha ⊢
    obtain ⟨h1, h2, h3, h4, a, cap, h5, h6, h7⟩ := ha
    refine ⟨h1, h2, h3, h4, a, cap, h5, h6, ?_⟩
    rcases h7 with h7 | ⟨b, off, e1, e2, e3, e4⟩
    · exact .inl h7
    · exact .inr ⟨b, off, e1, e2, Nat.lt_of_lt_of_le e3 hs, nodesAt_same h hs l b off e4⟩
theorem nodesAt_same {w w' : World} (h : ∀ p v, w.cell? p = some v → w'.cell? p = some v) (hs : w.heap.size ≤ w'.heap.size) : ∀ (l : List Nd) (b off : Nat), nodesAt w l b off → nodesAt w' l b off
  | [], b, off, _ => by rw [nodesAt_nil]; trivial
  | x :: l, b, off, ha => by
    rw [nodesAt_cons] at ha ⊢
    obtain ⟨⟨cs, h1, h2, h3⟩, h4⟩ := ha
    refine ⟨⟨cs, h1, fun q hq => ?_, Nd.at_same h hs x cs h3⟩, nodesAt_same h hs l b (off + 9) h4⟩
    have h5 := h2 q hq
    rw [List.getElem?_eq_getElem (by omega)] at h5 ⊢
    exact h _ _ h5
end
/-- a node that stands in a world where nothing can be read at B stands in any world that is the same but for B -/
theorem at_dead {w : World} {B : Nat} {x : Nd} {cs : List Value} (h : Nd.at (w.putObj B (.deferred none)) x cs) : Nd.at w x cs := by
  refine Nd.at_same (fun p v hp => ?_) (by simp) x cs h
  by_cases hB : p.block = B
  · exfalso
    unfold World.cell? at hp
    by_cases hlt : B < w.heap.size
    · rw [hB, World.putObj_heap_same hlt] at hp; cases hp
    · rw [hB, show (w.putObj B (.deferred none)).heap[B]? = none from Array.getElem?_eq_none (by simp; omega)] at hp; cases hp
  · rw [← hp]
    exact (World.cell?_of_block (World.putObj_heap_other hB)).symm
end Go.Proofs.Ytaanhijjhllckaa
