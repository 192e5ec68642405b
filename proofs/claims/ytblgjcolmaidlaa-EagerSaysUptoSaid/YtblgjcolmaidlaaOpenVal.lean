/- A value that was handed in, with all that hangs on it: opened; how much of the reading it takes. -/
import Derived.Test.YtblgjcolmaidlaaOpenCore
import Derived.Test.YtblgjcolmaidlaaValMath
namespace Go.Proofs.Ytblgjcolmaidlaa
namespace V
set_option maxRecDepth 100000
open Go.ChangeShapes Go.WideShapes Go.ChangeAt Go.RowKit

mutual
/-- the three cells of a value, in a world -/
def Vl.at (w : World) : Vl → List Value → Prop
  | .mk k z l, cs => fits64 k ∧ z < 256 ∧ ∃ (a : Option Addr) (cap : Nat),
      cs = [.int .i64 k, .int .u8 z, .slice a l.length cap] ∧ l.length ≤ maxLen ∧
      (l.length = 0 ∨ ∃ b off, a = some ⟨b, off, none⟩ ∧ l.length ≤ cap ∧ b < w.heap.size ∧ valsAt w l b off)
/-- values one behind the other -/
def valsAt (w : World) : List Vl → Nat → Nat → Prop
  | [], _, _ => True
  | x :: l, b, off => (∃ cs : List Value, cs.length = 3 ∧ (∀ q, q < 3 → w.cell? ⟨b, off + q, none⟩ = cs[q]?) ∧ Vl.at w x cs) ∧ valsAt w l b (off + 3)
end
theorem at_mk (w : World) (k : Int) (z : Nat) (l : List Vl) (cs : List Value) : Vl.at w (.mk k z l) cs = (fits64 k ∧ z < 256 ∧ ∃ (a : Option Addr) (cap : Nat),
      cs = [.int .i64 k, .int .u8 z, .slice a l.length cap] ∧ l.length ≤ maxLen ∧
      (l.length = 0 ∨ ∃ b off, a = some ⟨b, off, none⟩ ∧ l.length ≤ cap ∧ b < w.heap.size ∧ valsAt w l b off)) := by rw [Vl.at]
theorem valsAt_cons (w : World) (x : Vl) (l : List Vl) (b off : Nat) : valsAt w (x :: l) b off = ((∃ cs : List Value, cs.length = 3 ∧ (∀ q, q < 3 → w.cell? ⟨b, off + q, none⟩ = cs[q]?) ∧ Vl.at w x cs) ∧ valsAt w l b (off + 3)) := by rw [valsAt]
theorem valsAt_nil (w : World) (b off : Nat) : valsAt w [] b off = True := by rw [valsAt]
mutual
theorem Vl.at_below {B : Nat} {w w' : World} (hb : Below B w w') (hB : w.heap.size ≤ B) : ∀ (x : Vl) (cs : List Value), Vl.at w x cs → Vl.at w' x cs
  | .mk k z l, cs, h => by
    rw [at_mk] at h ⊢
    obtain ⟨h1, h4, a, cap, h5, h6, h7⟩ := h
    refine ⟨h1, h4, a, cap, h5, h6, ?_⟩
    rcases h7 with h7 | ⟨b, off, e1, e2, e3, e4⟩
    · exact .inl h7
    · exact .inr ⟨b, off, e1, e2, Nat.lt_of_lt_of_le e3 hb.size, valsAt_below hb hB l b off (by omega) e4⟩
theorem valsAt_below {B : Nat} {w w' : World} (hb : Below B w w') (hB : w.heap.size ≤ B) : ∀ (l : List Vl) (b off : Nat), b < B → valsAt w l b off → valsAt w' l b off
  | [], b, off, _, _ => by rw [valsAt_nil]; trivial
  | x :: l, b, off, hlt, h => by
    rw [valsAt_cons] at h ⊢
    obtain ⟨⟨cs, h1, h2, h3⟩, h4⟩ := h
    exact ⟨⟨cs, h1, fun q hq => by rw [hb.cell (p := ⟨b, off + q, none⟩) hlt]; exact h2 q hq, Vl.at_below hb hB x cs h3⟩, valsAt_below hb hB l b (off + 3) hlt h4⟩
end
theorem vals_from (w : World) (b : Nat) : ∀ (n off : Nat) (ms : List Nat), ms.length = n → (∀ i, i < n → ∃ (cs : List Value) (x : Vl), cs.length = 3 ∧ (∀ q, q < 3 → w.cell? ⟨b, off + i * 3 + q, none⟩ = cs[q]?) ∧ Vl.at w x cs ∧ x.count ≤ ms.getD i 0) → ∃ l : List Vl, l.length = n ∧ valsAt w l b off ∧ counts l ≤ ms.sum
  | 0, off, ms, _, _ => ⟨[], rfl, by rw [valsAt_nil]; trivial, by rw [counts_nil]; exact Nat.zero_le _⟩
  | n + 1, off, [], hm, _ => by simp at hm
  | n + 1, off, m :: ms, hm, h => by
    obtain ⟨cs, x, h1, h2, h3, h4⟩ := h 0 (by omega)
    obtain ⟨l, hl, hl2, hl3⟩ := vals_from w b n (off + 3) ms (by simpa using hm) (fun i hi => by
      obtain ⟨cs', x', g1, g2, g3, g4⟩ := h (i + 1) (by omega)
      exact ⟨cs', x', g1, fun q hq => by have := g2 q hq; rw [show off + (i + 1) * 3 + q = off + 3 + i * 3 + q from by omega] at this; exact this, g3, by simpa using g4⟩)
    refine ⟨x :: l, by simp [hl], ?_, ?_⟩
    · rw [valsAt_cons]
      exact ⟨⟨cs, h1, fun q hq => by have := h2 q hq; rw [Nat.zero_mul, Nat.add_zero] at this; exact this, h3⟩, hl2⟩
    · rw [counts_cons, List.sum_cons]
      have : x.count ≤ m := by simpa using h4
      omega

theorem cellsVal : Try.prog.cellsOf 25 = 3 := by kernel_rfl
theorem cellsRowV : Try.prog.cellsOf 23 = 1 := by kernel_rfl
theorem bulkAll_eq {H : Type} : ∀ l : List (DataW H), Rows.uptoBulkAll l = (l.map Rows.uptoBulk).sum
  | [] => rfl
  | d :: r => by rw [Rows.uptoBulkAll, bulkAll_eq r, List.map_cons, List.sum_cons]
theorem val_of_trod {H : Type} {enc : TypeId × Value → H} {W : World} {sp : Nat} {keep : Nat → Bool} {hd : Bool} : ∀ (fuel : Nat) (cs : List Value) (x : DataW H × List MemPlace),
    DataW.trod enc Try.prog W sp keep hd fuel 25 cs = some x → ∃ v : Vl, Vl.at W v cs ∧ v.count ≤ Rows.uptoBulk x.1 := by
  intro fuel
  induction fuel using Nat.strongRecOn with
  | _ fuel ih =>
    intro cs x h
    obtain ⟨xs, n, hfu, hx1, hlen, hxl, hf⟩ := DataW.trod_struct Try.underlying25 h
    rw [cellsVal] at hlen
    obtain ⟨c0, c1, c8, rfl⟩ : ∃ c0 c1 c8, cs = [c0, c1, c8] := by
      match cs, hlen with
      | [a, b, c], _ => exact ⟨a, b, c, rfl⟩
    have f0 : DataW.trod enc Try.prog W sp keep hd n 3 (([c0, c1, c8].drop 0).take (Try.prog.cellsOf 3)) = xs[0]? := hf 0 _ rfl
    rw [cellsInt] at f0
    have f1 : DataW.trod enc Try.prog W sp keep hd n 5 (([c0, c1, c8].drop 1).take (Try.prog.cellsOf 5)) = xs[1]? := hf 1 _ rfl
    have f5 : DataW.trod enc Try.prog W sp keep hd n 23 (([c0, c1, c8].drop 2).take (Try.prog.cellsOf 23)) = xs[2]? := hf 2 _ rfl
    rw [cellsRowV] at f5
    rw [show Try.prog.cellsOf 5 = 1 from by kernel_rfl] at f1
    obtain ⟨x0, x1, x5, rfl⟩ : ∃ x0 x1 x5, xs = [x0, x1, x5] := by
      have h6 : xs.length = 3 := hxl
      match xs, h6 with
      | [a, b, c], _ => exact ⟨a, b, c, rfl⟩
    obtain ⟨k, e0, _, w0⟩ := DataW.trod_int Try.underlying3 (show DataW.trod enc Try.prog W sp keep hd n 3 [c0] = some x0 from f0)
    obtain ⟨z, e1, _, w1⟩ := DataW.trod_int Try.underlying5 (show DataW.trod enc Try.prog W sp keep hd n 5 [c1] = some x1 from f1)
    cases e0; cases e1
    obtain ⟨z, rfl, hz⟩ := wf_u8 w1
    have hbulk : Rows.uptoBulk x5.1 ≤ Rows.uptoBulk x.1 := by
      rw [hx1]
      simp only [List.map_cons, List.map_nil, Rows.uptoBulk, Rows.uptoBulkAll]; omega
    have hbulk1 : 1 + Rows.uptoBulk x5.1 ≤ Rows.uptoBulk x.1 := by
      rw [hx1]
      simp only [List.map_cons, List.map_nil, Rows.uptoBulk, Rows.uptoBulkAll]; omega
    rcases DataW.trod_slice Try.underlying23 (show DataW.trod enc Try.prog W sp keep hd n 23 [c8] = some x5 from f5) with ⟨hc, _⟩ | ⟨a', len, cap, elems, rest, n', hn', hc, hx5, _, hl, hm, hel, heach, _, _⟩
    · cases hc
      exact ⟨.mk k z [], by rw [at_mk]; exact ⟨w0, hz, none, 0, rfl, by decide, .inl rfl⟩, by rw [count_mk, counts_nil]; omega⟩
    · cases hc
      have hget : ∀ i, i < len → ∃ (cs : List Value) (v : Vl), cs.length = 3 ∧ (∀ q, q < 3 → W.cell? ((a'.add (i * 3)).add q) = cs[q]?) ∧ Vl.at W v cs ∧ v.count ≤ (elems.map fun e => Rows.uptoBulk e.1).getD i 0 := by
        intro i hi'
        have h1 := heach i hi'
        rw [cellsVal, List.getElem?_eq_getElem (by omega)] at h1
        simp only [Option.bind_eq_some_iff] at h1
        obtain ⟨cs', h2, h3⟩ := h1
        obtain ⟨h4, h5⟩ := cells_each h2
        obtain ⟨nd, hnd, hcnt⟩ := ih n' (by omega) cs' _ h3
        refine ⟨cs', nd, h4, fun q hq => h5 q hq, hnd, ?_⟩
        rw [List.getD_eq_getElem?_getD, List.getElem?_map, List.getElem?_eq_getElem (by omega)]
        exact hcnt
      have hsum : (elems.map fun e => Rows.uptoBulk e.1).sum ≤ Rows.uptoBulk x5.1 := by
        rw [hx5]
        simp only [Rows.uptoBulk, bulkAll_eq, List.map_map, Function.comp_def]; omega
      by_cases h0 : len = 0
      · subst h0
        exact ⟨.mk k z [], by rw [at_mk]; exact ⟨w0, hz, some a', cap, rfl, by decide, .inl rfl⟩, by rw [count_mk, counts_nil]; omega⟩
      · obtain ⟨b, off, spot⟩ := a'
        obtain ⟨cs0, nd0, g1, g2, g3⟩ := hget 0 (by omega)
        have c0' := g2 0 (by decide)
        rw [List.getElem?_eq_getElem (by omega)] at c0'
        have hspot : spot = none := by simpa [Addr.add] using World.cell?_spot c0'
        subst hspot
        have hb : b < W.heap.size := by
          rw [add_at, add_at] at c0'
          exact World.block_lt_of_cell? W _ c0'
        obtain ⟨l, hll, hat, hcs⟩ := vals_from W b len off (elems.map fun e => Rows.uptoBulk e.1) (by simp [hel]) (fun i hi' => by
          obtain ⟨cs', x', g1, g2, g3⟩ := hget i hi'
          exact ⟨cs', x', g1, fun q hq => by have := g2 q hq; rw [add_at, add_at] at this; exact this, g3⟩)
        refine ⟨.mk k z l, ?_, by rw [count_mk]; omega⟩
        rw [at_mk]
        exact ⟨w0, hz, some ⟨b, off, none⟩, cap, by rw [hll], by omega, .inr ⟨b, off, rfl, by omega, hb, hat⟩⟩
theorem open_value {H : Type} {enc : TypeId × Value → H} {W : World} {base sp : Nat} {keep : Nat → Bool} {hd : Bool} {r : Reach} {v : Value} {d : DataW H} {ps : List MemPlace}
    (hval : Value.okWide Try.prog W r base 25 v) (h : DataW.Trod enc Try.prog W sp keep hd 25 v d ps) : ∃ (x : Vl) (cs : List Value), v = .agg cs.toArray ∧ Vl.at W x cs ∧ x.count ≤ Rows.uptoBulk d := by
  obtain ⟨cs, rfl, hs⟩ := okWide_struct Try.underlying25 hval
  obtain ⟨fuel, hf⟩ := h
  obtain ⟨nd, hnd, hc⟩ := val_of_trod fuel cs.toList _ hf
  exact ⟨nd, cs.toList, by simp, hnd, hc⟩
end V
end Go.Proofs.Ytblgjcolmaidlaa
