/- A node of a pattern that was handed in, with all that hangs on it: opened. -/
import Derived.Test.YtaanhijjhllckaaOpenSets
import Derived.Test.YtaanhijjhllckaaTreeMath
namespace Go.Proofs.Ytaanhijjhllckaa
set_option maxRecDepth 100000
open Go.ChangeShapes Go.WideShapes Go.ChangeAt Go.RowKit

/-- a number that a field holds -/
def fits64 (n : Int) : Prop := (Lit.int .i64 n).wf = true
mutual
/-- the nine cells of a node, in a world -/
def Nd.at (w : World) : Nd → List Value → Prop
  | .mk k s lo hi n l, cs => fits64 k ∧ fits64 lo ∧ fits64 hi ∧ fits64 n ∧ ∃ (a : Option Addr) (cap : Nat),
      cs = [.int .i64 k, .int .u64 (word s 0), .int .u64 (word s 1), .int .u64 (word s 2), .int .u64 (word s 3), .int .i64 lo, .int .i64 hi, .int .i64 n, .slice a l.length cap] ∧ l.length ≤ maxLen ∧
      (l.length = 0 ∨ ∃ b off, a = some ⟨b, off, none⟩ ∧ l.length ≤ cap ∧ b < w.heap.size ∧ nodesAt w l b off)
/-- nodes one behind the other -/
def nodesAt (w : World) : List Nd → Nat → Nat → Prop
  | [], _, _ => True
  | x :: l, b, off => (∃ cs : List Value, cs.length = 9 ∧ (∀ q, q < 9 → w.cell? ⟨b, off + q, none⟩ = cs[q]?) ∧ Nd.at w x cs) ∧ nodesAt w l b (off + 9)
end
theorem at_mk (w : World) (k : Int) (s : BitVec 256) (lo hi n : Int) (l : List Nd) (cs : List Value) : Nd.at w (.mk k s lo hi n l) cs = (fits64 k ∧ fits64 lo ∧ fits64 hi ∧ fits64 n ∧ ∃ (a : Option Addr) (cap : Nat),
      cs = [.int .i64 k, .int .u64 (word s 0), .int .u64 (word s 1), .int .u64 (word s 2), .int .u64 (word s 3), .int .i64 lo, .int .i64 hi, .int .i64 n, .slice a l.length cap] ∧ l.length ≤ maxLen ∧
      (l.length = 0 ∨ ∃ b off, a = some ⟨b, off, none⟩ ∧ l.length ≤ cap ∧ b < w.heap.size ∧ nodesAt w l b off)) := by rw [Nd.at]
theorem nodesAt_cons (w : World) (x : Nd) (l : List Nd) (b off : Nat) : nodesAt w (x :: l) b off = ((∃ cs : List Value, cs.length = 9 ∧ (∀ q, q < 9 → w.cell? ⟨b, off + q, none⟩ = cs[q]?) ∧ Nd.at w x cs) ∧ nodesAt w l b (off + 9)) := by rw [nodesAt]
theorem nodesAt_nil (w : World) (b off : Nat) : nodesAt w [] b off = True := by rw [nodesAt]
mutual
theorem Nd.at_below {B : Nat} {w w' : World} (hb : Below B w w') (hB : w.heap.size ≤ B) : ∀ (x : Nd) (cs : List Value), Nd.at w x cs → Nd.at w' x cs
  | .mk k s lo hi n l, cs, h => by
    rw [at_mk] at h ⊢
    obtain ⟨h1, h2, h3, h4, a, cap, h5, h6, h7⟩ := h
    refine ⟨h1, h2, h3, h4, a, cap, h5, h6, ?_⟩
    rcases h7 with h7 | ⟨b, off, e1, e2, e3, e4⟩
    · exact .inl h7
    · exact .inr ⟨b, off, e1, e2, Nat.lt_of_lt_of_le e3 hb.size, nodesAt_below hb hB l b off (by omega) e4⟩
theorem nodesAt_below {B : Nat} {w w' : World} (hb : Below B w w') (hB : w.heap.size ≤ B) : ∀ (l : List Nd) (b off : Nat), b < B → nodesAt w l b off → nodesAt w' l b off
  | [], b, off, _, _ => by rw [nodesAt_nil]; trivial
  | x :: l, b, off, hlt, h => by
    rw [nodesAt_cons] at h ⊢
    obtain ⟨⟨cs, h1, h2, h3⟩, h4⟩ := h
    exact ⟨⟨cs, h1, fun q hq => by rw [hb.cell (p := ⟨b, off + q, none⟩) hlt]; exact h2 q hq, Nd.at_below hb hB x cs h3⟩, nodesAt_below hb hB l b (off + 9) hlt h4⟩
end
theorem nodes_from (w : World) (b : Nat) : ∀ (n off : Nat), (∀ i, i < n → ∃ (cs : List Value) (x : Nd), cs.length = 9 ∧ (∀ q, q < 9 → w.cell? ⟨b, off + i * 9 + q, none⟩ = cs[q]?) ∧ Nd.at w x cs) → ∃ l : List Nd, l.length = n ∧ nodesAt w l b off
  | 0, off, _ => ⟨[], rfl, by rw [nodesAt_nil]; trivial⟩
  | n + 1, off, h => by
    obtain ⟨cs, x, h1, h2, h3⟩ := h 0 (by omega)
    obtain ⟨l, hl, hl2⟩ := nodes_from w b n (off + 9) (fun i hi => by
      obtain ⟨cs', x', g1, g2, g3⟩ := h (i + 1) (by omega)
      exact ⟨cs', x', g1, fun q hq => by have := g2 q hq; rw [show off + (i + 1) * 9 + q = off + 9 + i * 9 + q from by omega] at this; exact this, g3⟩)
    refine ⟨x :: l, by simp [hl], ?_⟩
    rw [nodesAt_cons]
    exact ⟨⟨cs, h1, fun q hq => by have := h2 q hq; rw [Nat.zero_mul, Nat.add_zero] at this; exact this, h3⟩, hl2⟩
theorem cellsNode : Try.prog.cellsOf 27 = 9 := by kernel_rfl
theorem cellsInt : Try.prog.cellsOf 3 = 1 := by kernel_rfl
theorem cellsRow : Try.prog.cellsOf 25 = 1 := by kernel_rfl
theorem node_of_trod {H : Type} {enc : TypeId × Value → H} {W : World} {sp : Nat} {keep : Nat → Bool} {hd : Bool} : ∀ (fuel : Nat) (cs : List Value) (x : DataW H × List MemPlace),
    DataW.trod enc Try.prog W sp keep hd fuel 27 cs = some x → ∃ nd : Nd, Nd.at W nd cs := by
  intro fuel
  induction fuel using Nat.strongRecOn with
  | _ fuel ih =>
    intro cs x h
    obtain ⟨xs, n, hfu, _, hlen, hxl, hf⟩ := DataW.trod_struct Try.underlying27 h
    rw [cellsNode] at hlen
    obtain ⟨c0, c1, c2, c3, c4, c5, c6, c7, c8, rfl⟩ : ∃ c0 c1 c2 c3 c4 c5 c6 c7 c8, cs = [c0, c1, c2, c3, c4, c5, c6, c7, c8] := by
      match cs, hlen with
      | [a, b, c, d, e, f, g, i, j], _ => exact ⟨a, b, c, d, e, f, g, i, j, rfl⟩
    have f0 : DataW.trod enc Try.prog W sp keep hd n 3 (([c0, c1, c2, c3, c4, c5, c6, c7, c8].drop 0).take (Try.prog.cellsOf 3)) = xs[0]? := hf 0 _ rfl
    rw [cellsInt] at f0
    have f1 : DataW.trod enc Try.prog W sp keep hd n 24 (([c0, c1, c2, c3, c4, c5, c6, c7, c8].drop 1).take (Try.prog.cellsOf 24)) = xs[1]? := hf 1 _ rfl
    rw [cellsSet] at f1
    have f2 : DataW.trod enc Try.prog W sp keep hd n 3 (([c0, c1, c2, c3, c4, c5, c6, c7, c8].drop 5).take (Try.prog.cellsOf 3)) = xs[2]? := hf 2 _ rfl
    rw [cellsInt] at f2
    have f3 : DataW.trod enc Try.prog W sp keep hd n 3 (([c0, c1, c2, c3, c4, c5, c6, c7, c8].drop 6).take (Try.prog.cellsOf 3)) = xs[3]? := hf 3 _ rfl
    rw [cellsInt] at f3
    have f4 : DataW.trod enc Try.prog W sp keep hd n 3 (([c0, c1, c2, c3, c4, c5, c6, c7, c8].drop 7).take (Try.prog.cellsOf 3)) = xs[4]? := hf 4 _ rfl
    rw [cellsInt] at f4
    have f5 : DataW.trod enc Try.prog W sp keep hd n 25 (([c0, c1, c2, c3, c4, c5, c6, c7, c8].drop 8).take (Try.prog.cellsOf 25)) = xs[5]? := hf 5 _ rfl
    rw [cellsRow] at f5
    obtain ⟨x0, x1, x2, x3, x4, x5, rfl⟩ : ∃ x0 x1 x2 x3 x4 x5, xs = [x0, x1, x2, x3, x4, x5] := by
      have h6 : xs.length = 6 := hxl
      match xs, h6 with
      | [a, b, c, d, e, f], _ => exact ⟨a, b, c, d, e, f, rfl⟩
    obtain ⟨k, e0, _, w0⟩ := DataW.trod_int Try.underlying3 (show DataW.trod enc Try.prog W sp keep hd n 3 [c0] = some x0 from f0)
    obtain ⟨s, hs⟩ := set_of_trod (show DataW.trod enc Try.prog W sp keep hd n 24 [c1, c2, c3, c4] = some x1 from f1) rfl
    obtain ⟨lo, e2, _, w2⟩ := DataW.trod_int Try.underlying3 (show DataW.trod enc Try.prog W sp keep hd n 3 [c5] = some x2 from f2)
    obtain ⟨hi, e3, _, w3⟩ := DataW.trod_int Try.underlying3 (show DataW.trod enc Try.prog W sp keep hd n 3 [c6] = some x3 from f3)
    obtain ⟨m, e4, _, w4⟩ := DataW.trod_int Try.underlying3 (show DataW.trod enc Try.prog W sp keep hd n 3 [c7] = some x4 from f4)
    cases e0; cases e2; cases e3; cases e4
    have s0 := hs 0 (by decide)
    have s1 := hs 1 (by decide)
    have s2 := hs 2 (by decide)
    have s3 := hs 3 (by decide)
    simp only [List.getElem?_cons_zero, List.getElem?_cons_succ, Option.some.injEq] at s0 s1 s2 s3
    subst s0 s1 s2 s3
    rcases DataW.trod_slice Try.underlying25 (show DataW.trod enc Try.prog W sp keep hd n 25 [c8] = some x5 from f5) with ⟨hc, _⟩ | ⟨a', len, cap, elems, rest, n', hn', hc, _, _, hl, hm, hel, heach, _, _⟩
    · cases hc
      exact ⟨.mk k s lo hi m [], by rw [at_mk]; exact ⟨w0, w2, w3, w4, none, 0, rfl, by decide, .inl rfl⟩⟩
    · cases hc
      have hget : ∀ i, i < len → ∃ (cs : List Value) (x : Nd), cs.length = 9 ∧ (∀ q, q < 9 → W.cell? ((a'.add (i * 9)).add q) = cs[q]?) ∧ Nd.at W x cs := by
        intro i hi'
        have h1 := heach i hi'
        rw [cellsNode, List.getElem?_eq_getElem (by omega)] at h1
        simp only [Option.bind_eq_some_iff] at h1
        obtain ⟨cs', h2, h3⟩ := h1
        obtain ⟨h4, h5⟩ := cells_each h2
        obtain ⟨nd, hnd⟩ := ih n' (by omega) cs' _ h3
        exact ⟨cs', nd, h4, fun q hq => h5 q hq, hnd⟩
      by_cases h0 : len = 0
      · subst h0
        exact ⟨.mk k s lo hi m [], by rw [at_mk]; exact ⟨w0, w2, w3, w4, some a', cap, rfl, by decide, .inl rfl⟩⟩
      · obtain ⟨b, off, spot⟩ := a'
        obtain ⟨cs0, nd0, g1, g2, g3⟩ := hget 0 (by omega)
        have c0' := g2 0 (by decide)
        rw [List.getElem?_eq_getElem (by omega)] at c0'
        have hspot : spot = none := by simpa [Addr.add] using World.cell?_spot c0'
        subst hspot
        have hb : b < W.heap.size := by
          rw [add_at, add_at] at c0'
          exact World.block_lt_of_cell? W _ c0'
        obtain ⟨l, hll, hat⟩ := nodes_from W b len off (fun i hi' => by
          obtain ⟨cs', x', g1, g2, g3⟩ := hget i hi'
          exact ⟨cs', x', g1, fun q hq => by have := g2 q hq; rw [add_at, add_at] at this; exact this, g3⟩)
        refine ⟨.mk k s lo hi m l, ?_⟩
        rw [at_mk]
        exact ⟨w0, w2, w3, w4, some ⟨b, off, none⟩, cap, by rw [hll], by omega, .inr ⟨b, off, rfl, by omega, hb, hat⟩⟩
theorem open_node {H : Type} {enc : TypeId × Value → H} {W : World} {base sp : Nat} {keep : Nat → Bool} {hd : Bool} {r : Reach} {v : Value} {d : DataW H} {ps : List MemPlace}
    (hval : Value.okWide Try.prog W r base 27 v) (h : DataW.Trod enc Try.prog W sp keep hd 27 v d ps) : ∃ (nd : Nd) (cs : List Value), v = .agg cs.toArray ∧ Nd.at W nd cs := by
  obtain ⟨cs, rfl, hs⟩ := okWide_struct Try.underlying27 hval
  obtain ⟨fuel, hf⟩ := h
  obtain ⟨nd, hnd⟩ := node_of_trod fuel cs.toList _ hf
  exact ⟨nd, cs.toList, by simp, hnd⟩
theorem cellsPattern : Try.prog.cellsOf 29 = 12 := by kernel_rfl
theorem cellsBool : Try.prog.cellsOf 4 = 1 := by kernel_rfl
/-- a pattern that was handed in -/
theorem open_pattern {H : Type} {enc : TypeId × Value → H} {W : World} {base sp : Nat} {keep : Nat → Bool} {hd : Bool} {r : Reach} {v : Value} {d : DataW H} {ps : List MemPlace}
    (hval : Value.okWide Try.prog W r base 29 v) (h : DataW.Trod enc Try.prog W sp keep hd 29 v d ps) :
    ∃ (st en : Bool) (nd : Nd) (cs : List Value) (gr : Int), v = .agg (.bool st :: .bool en :: (cs ++ [.int .i64 gr])).toArray ∧ fits64 gr ∧ Nd.at W nd cs := by
  obtain ⟨cs, rfl, hs⟩ := okWide_struct Try.underlying29 hval
  obtain ⟨fuel, hf⟩ := h
  obtain ⟨xs, n, _, _, hlen, hxl, hfi⟩ := DataW.trod_struct Try.underlying29 (show DataW.trod enc Try.prog W sp keep hd fuel 29 cs.toList = some (d, ps) from hf)
  rw [cellsPattern] at hlen
  obtain ⟨b0, b1, c0, c1, c2, c3, c4, c5, c6, c7, c8, g, hcs⟩ : ∃ b0 b1 c0 c1 c2 c3 c4 c5 c6 c7 c8 g, cs.toList = [b0, b1, c0, c1, c2, c3, c4, c5, c6, c7, c8, g] := by
    match cs.toList, hlen with
    | [b0, b1, a, b, c, d, e, f, g, i, j, k], _ => exact ⟨b0, b1, a, b, c, d, e, f, g, i, j, k, rfl⟩
  rw [hcs] at hfi
  have f0 : DataW.trod enc Try.prog W sp keep hd n 4 (([b0, b1, c0, c1, c2, c3, c4, c5, c6, c7, c8, g].drop 0).take (Try.prog.cellsOf 4)) = xs[0]? := hfi 0 _ rfl
  have f1 : DataW.trod enc Try.prog W sp keep hd n 4 (([b0, b1, c0, c1, c2, c3, c4, c5, c6, c7, c8, g].drop 1).take (Try.prog.cellsOf 4)) = xs[1]? := hfi 1 _ rfl
  have f2 : DataW.trod enc Try.prog W sp keep hd n 27 (([b0, b1, c0, c1, c2, c3, c4, c5, c6, c7, c8, g].drop 2).take (Try.prog.cellsOf 27)) = xs[2]? := hfi 2 _ rfl
  have f3 : DataW.trod enc Try.prog W sp keep hd n 3 (([b0, b1, c0, c1, c2, c3, c4, c5, c6, c7, c8, g].drop 11).take (Try.prog.cellsOf 3)) = xs[3]? := hfi 3 _ rfl
  rw [cellsBool] at f0 f1
  rw [cellsNode] at f2
  rw [cellsInt] at f3
  obtain ⟨x0, x1, x2, x3, rfl⟩ : ∃ x0 x1 x2 x3, xs = [x0, x1, x2, x3] := by
    have h4 : xs.length = 4 := hxl
    match xs, h4 with
    | [a, b, c, d], _ => exact ⟨a, b, c, d, rfl⟩
  obtain ⟨st, e0, _⟩ := DataW.trod_bool Try.underlying4 (show DataW.trod enc Try.prog W sp keep hd n 4 [b0] = some x0 from f0)
  obtain ⟨en, e1, _⟩ := DataW.trod_bool Try.underlying4 (show DataW.trod enc Try.prog W sp keep hd n 4 [b1] = some x1 from f1)
  obtain ⟨nd, hnd⟩ := node_of_trod n [c0, c1, c2, c3, c4, c5, c6, c7, c8] x2 f2
  obtain ⟨gr, e3, _, w3⟩ := DataW.trod_int Try.underlying3 (show DataW.trod enc Try.prog W sp keep hd n 3 [g] = some x3 from f3)
  cases e0; cases e1; cases e3
  refine ⟨st, en, nd, _, gr, ?_, w3, hnd⟩
  have : cs = ([.bool st, .bool en, c0, c1, c2, c3, c4, c5, c6, c7, c8, .int .i64 gr] : List Value).toArray := by rw [← hcs]
  rw [this]; rfl
end Go.Proofs.Ytaanhijjhllckaa
