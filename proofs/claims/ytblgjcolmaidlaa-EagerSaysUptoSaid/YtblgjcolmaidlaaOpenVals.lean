/- A list of values that was handed in, opened; how much of the reading it takes. -/
import Derived.Test.YtblgjcolmaidlaaOpenSets
import Derived.Test.YtblgjcolmaidlaaValKit
namespace Go.Proofs.Ytblgjcolmaidlaa
namespace V
set_option maxRecDepth 100000
open Go.ChangeShapes Go.WideShapes Go.ChangeAt Go.RowKit
theorem open_values {H : Type} {enc : TypeId × Value → H} {W : World} {base sp : Nat} {keep : Nat → Bool} {hd : Bool} {r : Reach} {v : Value} {d : DataW H} {ps : List MemPlace}
    (hval : Value.okWide Try.prog W r base 23 v) (h : DataW.Trod enc Try.prog W sp keep hd 23 v d ps) : ∃ (a : Option Addr) (n cap : Nat) (L : List Vl), v = .slice a n cap ∧ n = L.length ∧ ListAt W L (.slice a n cap) ∧ counts L ≤ Rows.uptoBulk d := by
  obtain ⟨a, n, cap, rfl⟩ := okWide_slice Try.underlying23 hval
  obtain ⟨fuel, hf⟩ := h
  rcases DataW.trod_slice Try.underlying23 (show DataW.trod enc Try.prog W sp keep hd fuel 23 [.slice a n cap] = some (d, ps) from hf) with ⟨hc, _⟩ | ⟨a', len, cap', elems, rest, m, _, hc, hd5, _, hl, hm, hlen, hel, _, _⟩
  · cases hc
    exact ⟨none, 0, 0, [], rfl, rfl, ⟨none, 0, rfl, by decide, .inl rfl⟩, by rw [counts_nil]; exact Nat.zero_le _⟩
  · cases hc
    have hget : ∀ i, i < n → ∃ (cs : List Value) (v : Vl), cs.length = 3 ∧ (∀ q, q < 3 → W.cell? ((a'.add (i * 3)).add q) = cs[q]?) ∧ Vl.at W v cs ∧ v.count ≤ (elems.map fun e => Rows.uptoBulk e.1).getD i 0 := by
      intro i hi
      have h1 := hel i hi
      rw [cellsVal, List.getElem?_eq_getElem (by omega)] at h1
      simp only [Option.bind_eq_some_iff] at h1
      obtain ⟨cs, h2, h3⟩ := h1
      obtain ⟨h4, h5⟩ := cells_each h2
      obtain ⟨nd, hnd, hcnt⟩ := val_of_trod m cs _ h3
      refine ⟨cs, nd, h4, fun q hq => h5 q hq, hnd, ?_⟩
      rw [List.getD_eq_getElem?_getD, List.getElem?_map, List.getElem?_eq_getElem (by omega)]
      exact hcnt
    have hsum : (elems.map fun e => Rows.uptoBulk e.1).sum ≤ Rows.uptoBulk d := by
      have e := congrArg Prod.fst hd5
      have e : d = _ := e
      rw [e]
      simp only [Rows.uptoBulk, bulkAll_eq, List.map_map, Function.comp_def]; omega
    by_cases h0 : n = 0
    · subst h0
      exact ⟨_, 0, cap, [], rfl, rfl, ⟨_, _, rfl, by decide, .inl rfl⟩, by rw [counts_nil]; exact Nat.zero_le _⟩
    · obtain ⟨b, off, spot⟩ := a'
      obtain ⟨cs0, nd0, g1, g2, g3⟩ := hget 0 (by omega)
      have c0' := g2 0 (by decide)
      rw [List.getElem?_eq_getElem (by omega)] at c0'
      have hspot : spot = none := by simpa [Addr.add] using World.cell?_spot c0'
      subst hspot
      have hb : b < W.heap.size := by
        rw [add_at, add_at] at c0'
        exact World.block_lt_of_cell? W _ c0'
      obtain ⟨l, hll, hat, hcs⟩ := vals_from W b n off (elems.map fun e => Rows.uptoBulk e.1) (by simp [hlen]) (fun i hi' => by
        obtain ⟨cs', x', g1, g2, g3⟩ := hget i hi'
        exact ⟨cs', x', g1, fun q hq => by have := g2 q hq; rw [add_at, add_at] at this; exact this, g3⟩)
      exact ⟨_, n, cap, l, rfl, hll.symm, ⟨_, _, by rw [hll], by omega, .inr ⟨b, off, rfl, by omega, hb, hat⟩⟩, Nat.le_trans hcs hsum⟩
end V
end Go.Proofs.Ytblgjcolmaidlaa
