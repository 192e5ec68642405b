/- A core that was handed in, with all that hangs on it: opened. -/
import Derived.Test.YtonhmjfopidacaaDoorOpenNode
import Derived.Test.YtonhmjfopidacaaDoorCoreMath
namespace Go.Proofs.YtonhmjfopidacaaDoor
namespace K
set_option maxRecDepth 100000
open Go.ChangeShapes Go.WideShapes Go.ChangeAt Go.RowKit

mutual
/-- the nine cells of a node, in a world -/
def Cr.at (w : World) : Cr → List Value → Prop
  | .mk k s n l, cs => fits64 k ∧ fits64 n ∧ ∃ (a : Option Addr) (cap : Nat),
      cs = [.int .i64 k, .int .u64 (word s 0), .int .u64 (word s 1), .int .u64 (word s 2), .int .u64 (word s 3), .int .i64 n, .slice a l.length cap] ∧ l.length ≤ maxLen ∧
      (l.length = 0 ∨ ∃ b off, a = some ⟨b, off, none⟩ ∧ l.length ≤ cap ∧ b < w.heap.size ∧ coresAt w l b off)
/-- nodes one behind the other -/
def coresAt (w : World) : List Cr → Nat → Nat → Prop
  | [], _, _ => True
  | x :: l, b, off => (∃ cs : List Value, cs.length = 7 ∧ (∀ q, q < 7 → w.cell? ⟨b, off + q, none⟩ = cs[q]?) ∧ Cr.at w x cs) ∧ coresAt w l b (off + 7)
end
theorem at_mk (w : World) (k : Int) (s : BitVec 256) (n : Int) (l : List Cr) (cs : List Value) : Cr.at w (.mk k s n l) cs = (fits64 k ∧ fits64 n ∧ ∃ (a : Option Addr) (cap : Nat),
      cs = [.int .i64 k, .int .u64 (word s 0), .int .u64 (word s 1), .int .u64 (word s 2), .int .u64 (word s 3), .int .i64 n, .slice a l.length cap] ∧ l.length ≤ maxLen ∧
      (l.length = 0 ∨ ∃ b off, a = some ⟨b, off, none⟩ ∧ l.length ≤ cap ∧ b < w.heap.size ∧ coresAt w l b off)) := by rw [Cr.at]
theorem coresAt_cons (w : World) (x : Cr) (l : List Cr) (b off : Nat) : coresAt w (x :: l) b off = ((∃ cs : List Value, cs.length = 7 ∧ (∀ q, q < 7 → w.cell? ⟨b, off + q, none⟩ = cs[q]?) ∧ Cr.at w x cs) ∧ coresAt w l b (off + 7)) := by rw [coresAt]
theorem coresAt_nil (w : World) (b off : Nat) : coresAt w [] b off = True := by rw [coresAt]
mutual
theorem Cr.at_below {B : Nat} {w w' : World} (hb : Below B w w') (hB : w.heap.size ≤ B) : ∀ (x : Cr) (cs : List Value), Cr.at w x cs → Cr.at w' x cs
  | .mk k s n l, cs, h => by
    rw [at_mk] at h ⊢
    obtain ⟨h1, h4, a, cap, h5, h6, h7⟩ := h
    refine ⟨h1, h4, a, cap, h5, h6, ?_⟩
    rcases h7 with h7 | ⟨b, off, e1, e2, e3, e4⟩
    · exact .inl h7
    · exact .inr ⟨b, off, e1, e2, Nat.lt_of_lt_of_le e3 hb.size, coresAt_below hb hB l b off (by omega) e4⟩
theorem coresAt_below {B : Nat} {w w' : World} (hb : Below B w w') (hB : w.heap.size ≤ B) : ∀ (l : List Cr) (b off : Nat), b < B → coresAt w l b off → coresAt w' l b off
  | [], b, off, _, _ => by rw [coresAt_nil]; trivial
  | x :: l, b, off, hlt, h => by
    rw [coresAt_cons] at h ⊢
    obtain ⟨⟨cs, h1, h2, h3⟩, h4⟩ := h
    exact ⟨⟨cs, h1, fun q hq => by rw [hb.cell (p := ⟨b, off + q, none⟩) hlt]; exact h2 q hq, Cr.at_below hb hB x cs h3⟩, coresAt_below hb hB l b (off + 7) hlt h4⟩
end
theorem nodes_from (w : World) (b : Nat) : ∀ (n off : Nat), (∀ i, i < n → ∃ (cs : List Value) (x : Cr), cs.length = 7 ∧ (∀ q, q < 7 → w.cell? ⟨b, off + i * 7 + q, none⟩ = cs[q]?) ∧ Cr.at w x cs) → ∃ l : List Cr, l.length = n ∧ coresAt w l b off
  | 0, off, _ => ⟨[], rfl, by rw [coresAt_nil]; trivial⟩
  | n + 1, off, h => by
    obtain ⟨cs, x, h1, h2, h3⟩ := h 0 (by omega)
    obtain ⟨l, hl, hl2⟩ := nodes_from w b n (off + 7) (fun i hi => by
      obtain ⟨cs', x', g1, g2, g3⟩ := h (i + 1) (by omega)
      exact ⟨cs', x', g1, fun q hq => by have := g2 q hq; rw [show off + (i + 1) * 7 + q = off + 7 + i * 7 + q from by omega] at this; exact this, g3⟩)
    refine ⟨x :: l, by simp [hl], ?_⟩
    rw [coresAt_cons]
    exact ⟨⟨cs, h1, fun q hq => by have := h2 q hq; rw [Nat.zero_mul, Nat.add_zero] at this; exact this, h3⟩, hl2⟩
theorem cellsCore : Tryd.prog.cellsOf 28 = 7 := by kernel_rfl
theorem cellsRowC : Tryd.prog.cellsOf 26 = 1 := by kernel_rfl
theorem core_of_trod {H : Type} {enc : TypeId × Value → H} {W : World} {sp : Nat} {keep : Nat → Bool} {hd : Bool} : ∀ (fuel : Nat) (cs : List Value) (x : DataW H × List MemPlace),
    DataW.trod enc Tryd.prog W sp keep hd fuel 28 cs = some x → ∃ nd : Cr, Cr.at W nd cs := by
  intro fuel
  induction fuel using Nat.strongRecOn with
  | _ fuel ih =>
    intro cs x h
    obtain ⟨xs, n, hfu, _, hlen, hxl, hf⟩ := DataW.trod_struct Tryd.underlying28 h
    rw [cellsCore] at hlen
    obtain ⟨c0, c1, c2, c3, c4, c7, c8, rfl⟩ : ∃ c0 c1 c2 c3 c4 c7 c8, cs = [c0, c1, c2, c3, c4, c7, c8] := by
      match cs, hlen with
      | [a, b, c, d, e, i, j], _ => exact ⟨a, b, c, d, e, i, j, rfl⟩
    have f0 : DataW.trod enc Tryd.prog W sp keep hd n 3 (([c0, c1, c2, c3, c4, c7, c8].drop 0).take (Tryd.prog.cellsOf 3)) = xs[0]? := hf 0 _ rfl
    rw [cellsInt] at f0
    have f1 : DataW.trod enc Tryd.prog W sp keep hd n 25 (([c0, c1, c2, c3, c4, c7, c8].drop 1).take (Tryd.prog.cellsOf 25)) = xs[1]? := hf 1 _ rfl
    rw [cellsSet] at f1
    have f4 : DataW.trod enc Tryd.prog W sp keep hd n 3 (([c0, c1, c2, c3, c4, c7, c8].drop 5).take (Tryd.prog.cellsOf 3)) = xs[2]? := hf 2 _ rfl
    rw [cellsInt] at f4
    have f5 : DataW.trod enc Tryd.prog W sp keep hd n 26 (([c0, c1, c2, c3, c4, c7, c8].drop 6).take (Tryd.prog.cellsOf 26)) = xs[3]? := hf 3 _ rfl
    rw [cellsRowC] at f5
    obtain ⟨x0, x1, x4, x5, rfl⟩ : ∃ x0 x1 x4 x5, xs = [x0, x1, x4, x5] := by
      have h6 : xs.length = 4 := hxl
      match xs, h6 with
      | [a, b, c, d], _ => exact ⟨a, b, c, d, rfl⟩
    obtain ⟨k, e0, _, w0⟩ := DataW.trod_int Tryd.underlying3 (show DataW.trod enc Tryd.prog W sp keep hd n 3 [c0] = some x0 from f0)
    obtain ⟨s, hs⟩ := set_of_trod (show DataW.trod enc Tryd.prog W sp keep hd n 25 [c1, c2, c3, c4] = some x1 from f1) rfl
    obtain ⟨m, e4, _, w4⟩ := DataW.trod_int Tryd.underlying3 (show DataW.trod enc Tryd.prog W sp keep hd n 3 [c7] = some x4 from f4)
    cases e0; cases e4
    have s0 := hs 0 (by decide)
    have s1 := hs 1 (by decide)
    have s2 := hs 2 (by decide)
    have s3 := hs 3 (by decide)
    simp only [List.getElem?_cons_zero, List.getElem?_cons_succ, Option.some.injEq] at s0 s1 s2 s3
    subst s0 s1 s2 s3
    rcases DataW.trod_slice Tryd.underlying26 (show DataW.trod enc Tryd.prog W sp keep hd n 26 [c8] = some x5 from f5) with ⟨hc, _⟩ | ⟨a', len, cap, elems, rest, n', hn', hc, _, _, hl, hm, hel, heach, _, _⟩
    · cases hc
      exact ⟨.mk k s m [], by rw [at_mk]; exact ⟨w0, w4, none, 0, rfl, by decide, .inl rfl⟩⟩
    · cases hc
      have hget : ∀ i, i < len → ∃ (cs : List Value) (x : Cr), cs.length = 7 ∧ (∀ q, q < 7 → W.cell? ((a'.add (i * 7)).add q) = cs[q]?) ∧ Cr.at W x cs := by
        intro i hi'
        have h1 := heach i hi'
        rw [cellsCore, List.getElem?_eq_getElem (by omega)] at h1
        simp only [Option.bind_eq_some_iff] at h1
        obtain ⟨cs', h2, h3⟩ := h1
        obtain ⟨h4, h5⟩ := cells_each h2
        obtain ⟨nd, hnd⟩ := ih n' (by omega) cs' _ h3
        exact ⟨cs', nd, h4, fun q hq => h5 q hq, hnd⟩
      by_cases h0 : len = 0
      · subst h0
        exact ⟨.mk k s m [], by rw [at_mk]; exact ⟨w0, w4, some a', cap, rfl, by decide, .inl rfl⟩⟩
      · obtain ⟨b, off, spot⟩ := a'
        obtain ⟨cs0, nd0, g1, g2, g3⟩ := hget 0 (by omega)
        have c0' := g2 0 (by decide)
        rw [List.getElem?_eq_getElem (by omega)] at c0'
        have hspot : spot = none := by simpa [Addr.add] using World.cell?_spot c0'
        subst hspot
        have hb : b < W.heap.size := by
          rw [add_at, add_at] at c0'
          exact World.block_lt_of_cell? W _ c0'
        obtain ⟨l, hll, hat⟩ := nodes_from W b len off (fun i hi' => by
          obtain ⟨cs', x', g1, g2, g3⟩ := hget i hi'
          exact ⟨cs', x', g1, fun q hq => by have := g2 q hq; rw [add_at, add_at] at this; exact this, g3⟩)
        refine ⟨.mk k s m l, ?_⟩
        rw [at_mk]
        exact ⟨w0, w4, some ⟨b, off, none⟩, cap, by rw [hll], by omega, .inr ⟨b, off, rfl, by omega, hb, hat⟩⟩
theorem open_core {H : Type} {enc : TypeId × Value → H} {W : World} {base sp : Nat} {keep : Nat → Bool} {hd : Bool} {r : Reach} {v : Value} {d : DataW H} {ps : List MemPlace}
    (hval : Value.okWide Tryd.prog W r base 28 v) (h : DataW.Trod enc Tryd.prog W sp keep hd 28 v d ps) : ∃ (nd : Cr) (cs : List Value), v = .agg cs.toArray ∧ Cr.at W nd cs := by
  obtain ⟨cs, rfl, hs⟩ := okWide_struct Tryd.underlying28 hval
  obtain ⟨fuel, hf⟩ := h
  obtain ⟨nd, hnd⟩ := core_of_trod fuel cs.toList _ hf
  exact ⟨nd, cs.toList, by simp, hnd⟩
end K
end Go.Proofs.YtonhmjfopidacaaDoor
