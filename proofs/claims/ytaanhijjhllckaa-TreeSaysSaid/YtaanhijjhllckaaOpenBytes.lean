/- A slice of bytes that was handed in, opened. -/
import Derived.Test.YtaanhijjhllckaaKit
import Derived.Test.YtaanhijjhllckaaSetAll
namespace Go.Proofs.Ytaanhijjhllckaa
set_option maxRecDepth 100000
open Go.ChangeShapes Go.WideShapes Go.ChangeAt Go.RowKit

theorem add_at (b off j : Nat) : (⟨b, off, none⟩ : Addr).add j = ⟨b, off + j, none⟩ := by
  unfold Addr.add
  split
  · rename_i h; subst h; rfl
  · rfl
theorem open_bytes {H : Type} {enc : TypeId × Value → H} {W : World} {base sp : Nat} {keep : Nat → Bool} {hd : Bool} {r : Reach} {v : Value} {d : DataW H} {ps : List MemPlace}
    (hval : Value.okWide Try.prog W r base 72 v) (h : DataW.Trod enc Try.prog W sp keep hd 72 v d ps) : ∃ (a : Option Addr) (n cap : Nat) (l : List Nat), v = .slice a n cap ∧ BytesAt W a n cap l := by
  obtain ⟨a, n, cap, rfl⟩ := okWide_slice Try.underlying72 hval
  obtain ⟨fuel, hf⟩ := h
  rcases open_ints Try.underlying72 Try.underlying5 cellsU8 (show DataW.trod enc Try.prog W sp keep hd fuel 72 [.slice a n cap] = some (d, ps) from hf) with ⟨hc, _⟩ | ⟨a', len, cap', zs, hc, _, hl, hm, hz, _, hcell, hw⟩
  · cases hc
    exact ⟨none, 0, 0, [], rfl, rfl, by simp, by decide, .inl rfl⟩
  · cases hc
    have hzl : n ≤ zs.length := by rw [hz]; split <;> omega
    have hget : ∀ j, j < n → ∃ m : Nat, zs.getD j 0 = (m : Int) ∧ m < 256 ∧ ((zs.take n).map Int.toNat).getD j 0 = m := by
      intro j hj
      have hj' : j < zs.length := by omega
      have hmem : zs[j] ∈ zs := List.getElem_mem _
      obtain ⟨m, hm1, hm2⟩ := wf_u8 (hw _ hmem)
      refine ⟨m, by rw [List.getD_eq_getElem?_getD, List.getElem?_eq_getElem hj']; exact hm1, hm2, ?_⟩
      rw [List.getD_eq_getElem?_getD, List.getElem?_map, List.getElem?_take, if_pos hj, List.getElem?_eq_getElem hj']
      simp [hm1]
    have hlen : n = ((zs.take n).map Int.toNat).length := by simp; omega
    refine ⟨_, n, cap, (zs.take n).map Int.toNat, rfl, hlen, ?_, by omega, ?_⟩
    · intro x hx
      obtain ⟨z, hz1, rfl⟩ := List.mem_map.1 hx
      obtain ⟨m, hm1, hm2⟩ := wf_u8 (hw z (List.mem_of_mem_take hz1))
      rw [hm1]; simpa using hm2
    · by_cases h0 : n = 0
      · exact .inl h0
      · refine .inr ?_
        have c0 := hcell 0 (by omega)
        obtain ⟨b, off, spot⟩ := a'
        have hspot : spot = none := by simpa [Addr.add] using World.cell?_spot c0
        subst hspot
        have hb : b < W.heap.size := by
          rw [add_at] at c0
          exact World.block_lt_of_cell? W _ c0
        refine ⟨b, off, rfl, hl, hb, fun j hj => ?_⟩
        obtain ⟨m, hm1, _, hm3⟩ := hget j hj
        have := hcell j (by omega)
        rw [add_at, hm1] at this
        rw [hm3]
        exact this
end Go.Proofs.Ytaanhijjhllckaa
