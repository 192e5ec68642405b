/- A list of sets that was handed in, opened. -/
import Derived.Test.YtaanhijjhllckaaOpenBytes
import Derived.Test.YtaanhijjhllckaaBlockMem
namespace Go.Proofs.Ytaanhijjhllckaa
set_option maxRecDepth 100000
open Go.ChangeShapes Go.WideShapes Go.ChangeAt Go.RowKit

theorem set_of_trod {H : Type} {enc : TypeId × Value → H} {W : World} {sp : Nat} {keep : Nat → Bool} {hd : Bool} {fuel : Nat} {cs : List Value} {x : DataW H × List MemPlace}
    (h : DataW.trod enc Try.prog W sp keep hd fuel 24 cs = some x) (hl : cs.length = 4) : ∃ s : BitVec 256, ∀ q, q < 4 → cs[q]? = some (.int .u64 (word s q : Int)) := by
  obtain ⟨c0, c1, c2, c3, rfl⟩ : ∃ c0 c1 c2 c3, cs = [c0, c1, c2, c3] := by
    match cs, hl with
    | [a, b, c, d], _ => exact ⟨a, b, c, d, rfl⟩
  obtain ⟨y0, y1, y2, y3, n, _, h0, h1, h2, h3⟩ := trod_array4 Try.underlying24 cellsU64 h
  obtain ⟨n0, e0, _, w0⟩ := DataW.trod_int Try.underlying22 h0
  obtain ⟨n1, e1, _, w1⟩ := DataW.trod_int Try.underlying22 h1
  obtain ⟨n2, e2, _, w2⟩ := DataW.trod_int Try.underlying22 h2
  obtain ⟨n3, e3, _, w3⟩ := DataW.trod_int Try.underlying22 h3
  cases e0; cases e1; cases e2; cases e3
  obtain ⟨m0, rfl, l0⟩ := wf_u64 w0
  obtain ⟨m1, rfl, l1⟩ := wf_u64 w1
  obtain ⟨m2, rfl, l2⟩ := wf_u64 w2
  obtain ⟨m3, rfl, l3⟩ := wf_u64 w3
  obtain ⟨s, rfl, rfl, rfl, rfl⟩ := word_of m0 m1 m2 m3 l0 l1 l2 l3
  refine ⟨s, fun q hq => ?_⟩
  have h4 : q = 0 ∨ q = 1 ∨ q = 2 ∨ q = 3 := by omega
  rcases h4 with rfl | rfl | rfl | rfl <;> rfl
theorem cells_each {w : World} {base : Nat} {a : Addr} {n : Nat} {cs : List Value} (h : w.cells? base a n = some cs) : cs.length = n ∧ ∀ i, i < n → w.cell? (a.add i) = cs[i]? := by
  unfold World.cells? at h
  split at h
  · refine ⟨by simpa using mapM_some_length h, fun i hi => ?_⟩
    exact mapM_some_get h i i (by simp [hi])
  · cases h
theorem open_sets {H : Type} {enc : TypeId × Value → H} {W : World} {base sp : Nat} {keep : Nat → Bool} {hd : Bool} {r : Reach} {v : Value} {d : DataW H} {ps : List MemPlace}
    (hval : Value.okWide Try.prog W r base 41 v) (h : DataW.Trod enc Try.prog W sp keep hd 41 v d ps) : ∃ (a : Option Addr) (n cap : Nat) (L : List (BitVec 256)), v = .slice a n cap ∧ SetsAt W a n cap L := by
  obtain ⟨a, n, cap, rfl⟩ := okWide_slice Try.underlying41 hval
  obtain ⟨fuel, hf⟩ := h
  rcases DataW.trod_slice Try.underlying41 (show DataW.trod enc Try.prog W sp keep hd fuel 41 [.slice a n cap] = some (d, ps) from hf) with ⟨hc, _⟩ | ⟨a', len, cap', elems, rest, m, _, hc, _, _, hl, hm, hlen, hel, _, _⟩
  · cases hc
    exact ⟨none, 0, 0, [], rfl, rfl, by decide, .inl rfl⟩
  · cases hc
    have hget : ∀ i, i < n → ∃ s : BitVec 256, ∀ q, q < 4 → W.cell? ((a'.add (i * 4)).add q) = some (.int .u64 (word s q : Int)) := by
      intro i hi
      have h1 := hel i hi
      rw [cellsSet, List.getElem?_eq_getElem (by omega)] at h1
      simp only [Option.bind_eq_some_iff] at h1
      obtain ⟨cs, h2, h3⟩ := h1
      obtain ⟨h4, h5⟩ := cells_each h2
      obtain ⟨s, hs⟩ := set_of_trod h3 h4
      exact ⟨s, fun q hq => by rw [h5 q hq]; exact hs q hq⟩
    by_cases h0 : n = 0
    · subst h0
      exact ⟨_, 0, cap, [], rfl, rfl, by decide, .inl rfl⟩
    · obtain ⟨b, off, spot⟩ := a'
      obtain ⟨s0, hs0⟩ := hget 0 (by omega)
      have c0 := hs0 0 (by decide)
      have hspot : spot = none := by simpa [Addr.add] using World.cell?_spot c0
      subst hspot
      have hb : b < W.heap.size := by
        rw [add_at, add_at] at c0
        exact World.block_lt_of_cell? W _ c0
      have hch := fun (i : Fin n) => hget i.val i.isLt
      have hc : ∃ f : Fin n → BitVec 256, ∀ i : Fin n, ∀ q, q < 4 → W.cell? (((⟨b, off, none⟩ : Addr).add (i.val * 4)).add q) = some (.int .u64 (word (f i) q : Int)) := ⟨fun i => (hch i).choose, fun i => (hch i).choose_spec⟩
      obtain ⟨f, hf'⟩ := hc
      refine ⟨_, n, cap, List.ofFn f, rfl, by simp, by omega, .inr ⟨b, off, rfl, hl, hb, fun j hj q hq => ?_⟩⟩
      have := hf' ⟨j, hj⟩ q hq
      rw [add_at, add_at] at this
      rw [this, List.getD_eq_getElem?_getD, List.getElem?_eq_getElem (by simpa using hj)]
      simp
end Go.Proofs.Ytaanhijjhllckaa
