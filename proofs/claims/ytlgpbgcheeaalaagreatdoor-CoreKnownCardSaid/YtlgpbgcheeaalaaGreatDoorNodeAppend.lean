/- append of one node onto a list of nodes that the call owns; a field of a node in a block of its own, stored alone. -/
import Derived.Test.YtlgpbgcheeaalaaGreatDoorTreeMade
import Derived.Test.YtlgpbgcheeaalaaGreatDoorBlockAppend
namespace Go.Proofs.YtlgpbgcheeaalaaGreatDoor
set_option maxRecDepth 100000
open Go.RowKit
abbrev zeroNode : Value := .agg #[.int .i64 0, .int .u64 0, .int .u64 0, .int .u64 0, .int .u64 0, .int .i64 0, .int .i64 0, .int .i64 0, .slice none 0 0]
theorem info_node : (Tryz.prog.info? 39).map (fun i => (i.zero, i.size, i.bytes)) = some (some zeroNode, 9, 88) := by kernel_rfl
theorem wpList_append_node {ops : Array Oper} {rest : List Oper} {o : Oper} {a : Act} {w : World} {Q : Exit → Act → World → Prop} (hgd : o.guard = none) (s x : Operand)
    (ho : o.op = .call { callee := .builtin .append, args := #[s, x], argTypes := #[37, 37] }) (base : Nat) (v : Value) (n : Nat) (xs : List Value) (hs : a.eval s = v)
    (hown : w.ownsRow base 39 9 v n xs) (b : Nat) (cs : List Value) (hx : a.eval x = .slice (some ⟨b, 0, none⟩) 1 1) (hc : Node9 w b 0 cs) (h1 : ∀ u ∈ cs, u.oneCell' = true) (hn : n < 1000000000000) (hbase : base ≤ w.heap.size)
    (h : ∀ v' w', w'.ownsRow base 39 9 v' (n + 1) (xs ++ cs) → w.grownBy w' v.ownBlock → wpList Tryz.prog ops Q rest (a.put o.dst v') w') : wpList Tryz.prog ops Q (o :: rest) a w := by
  obtain ⟨i0, hi, hz0, hz1, hz2⟩ := info_parts info_node
  refine wpList_append_own w hgd s x _ ho base 39 i0 zeroNode 9 88 Tryz.underlying37 hi hz0 hz1 hz2 rfl (by decide) v n xs hs hown ⟨b, 0, none⟩ 1 1 cs hx (by rw [hc.1]) ?_ h1 (by unfold maxLen; omega) (by omega) hbase ?_
  · intro j u hj
    have hjl : j < 9 := by rw [← hc.1]; exact (List.getElem?_eq_some_iff.1 hj).1
    rw [addr_at, hc.2 j hjl, hj]
  · intro v' w' g1 g2 _
    exact h v' w' g1 g2
/-- a list of nodes that the call owns, read -/
theorem nodesAt_owns {w : World} {base : Nat} {v : Value} {n : Nat} (L : List (Nd × List Value)) (hL : ∀ p ∈ L, Nd.at w p.1 p.2) (hn : n = L.length) (h0 : 0 < n) (h : w.ownsRow base 39 9 v n (L.flatMap (·.2))) :
    ∃ g cap, v = .slice (some ⟨g, 0, none⟩) n cap ∧ base ≤ g ∧ g < w.heap.size ∧ n ≤ cap ∧ n ≤ maxLen ∧ nodesAt w (L.map (·.1)) g 0 := by
  rcases h.2 with ⟨_, h1⟩ | ⟨g, cap, cur, rfl, hb, hg, hc, hm, hs, htake⟩
  · omega
  · refine ⟨g, cap, rfl, hb, (Array.getElem?_eq_some_iff.1 hg).1, hc, by omega, nodesAt_cells L 0 hL fun q hq => ?_⟩
    have hlen := h.1
    obtain ⟨u, hu⟩ : ∃ u, (L.flatMap (·.2))[q]? = some u := ⟨_, List.getElem?_eq_getElem (by omega)⟩
    have := h.cells (g := g) rfl q u hu
    rw [addr_at] at this
    rw [this, hu]
theorem node9_in {w : World} {b : Nat} {cs : List Value} (h : NodeIn w b cs.toArray) (hc : cs.length = 9) : Node9 w b 0 cs := ⟨hc, fun q _ => by rw [Nat.zero_add, cells_at h]; simp⟩
theorem node_setField {w : World} {b : Nat} {cs : Array Value} (h : NodeIn w b cs) (u : Value) : NodeIn (w.setCell ⟨b, 8, none⟩ u) b (cs.setIfInBounds 8 u) := heap_setCell_same w b 8 cs _ u h
theorem only_setCell (w : World) (b o : Nat) (u : Value) : Only b w (w.setCell ⟨b, o, none⟩ u) := ⟨rfl, rfl, rfl, by simp, fun k hk => heap_setCell_other w _ k u hk⟩
theorem at_cell_one {w : World} {x : Nd} {cs : List Value} (h : Nd.at w x cs) : ∀ u ∈ cs, u.oneCell' = true := by
  obtain ⟨_, _, _, _, _, _, _, e⟩ := at_cells h
  rw [e]
  simp only [List.forall_mem_cons]
  exact ⟨rfl, rfl, rfl, rfl, rfl, rfl, rfl, rfl, rfl, fun p hp => by cases hp⟩
end Go.Proofs.YtlgpbgcheeaalaaGreatDoor
