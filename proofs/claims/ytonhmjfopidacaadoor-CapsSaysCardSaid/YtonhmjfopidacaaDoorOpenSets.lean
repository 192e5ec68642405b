/- A list of sets that was handed in, opened. -/
import Derived.Test.YtonhmjfopidacaaDoorOpenBytes
import Derived.Test.YtonhmjfopidacaaDoorBlockMem
namespace Go.Proofs.YtonhmjfopidacaaDoor
set_option maxRecDepth 100000
open Go.ChangeShapes Go.WideShapes Go.ChangeAt Go.RowKit

theorem set_of_trod {H : Type} {enc : TypeId × Value → H} {W : World} {sp : Nat} {keep : Nat → Bool} {hd : Bool} {fuel : Nat} {cs : List Value} {x : DataW H × List MemPlace}
    (h : DataW.trod enc Tryd.prog W sp keep hd fuel 25 cs = some x) (hl : cs.length = 4) : ∃ s : BitVec 256, ∀ q, q < 4 → cs[q]? = some (.int .u64 (word s q : Int)) := by
  obtain ⟨c0, c1, c2, c3, rfl⟩ : ∃ c0 c1 c2 c3, cs = [c0, c1, c2, c3] := by
    match cs, hl with
    | [a, b, c, d], _ => exact ⟨a, b, c, d, rfl⟩
  obtain ⟨y0, y1, y2, y3, n, _, h0, h1, h2, h3⟩ := trod_array4 Tryd.underlying25 cellsU64 h
  obtain ⟨n0, e0, _, w0⟩ := DataW.trod_int Tryd.underlying23 h0
  obtain ⟨n1, e1, _, w1⟩ := DataW.trod_int Tryd.underlying23 h1
  obtain ⟨n2, e2, _, w2⟩ := DataW.trod_int Tryd.underlying23 h2
  obtain ⟨n3, e3, _, w3⟩ := DataW.trod_int Tryd.underlying23 h3
  cases e0; cases e1; cases e2; cases e3
  obtain ⟨m0, rfl, l0⟩ := wf_u64 w0
  obtain ⟨m1, rfl, l1⟩ := wf_u64 w1
  obtain ⟨m2, rfl, l2⟩ := wf_u64 w2
  obtain ⟨m3, rfl, l3⟩ := wf_u64 w3
  obtain ⟨s, rfl, rfl, rfl, rfl⟩ := word_of m0 m1 m2 m3 l0 l1 l2 l3
  refine ⟨s, fun q hq => ?_⟩
  have h4 : q = 0 ∨ q = 1 ∨ q = 2 ∨ q = 3 := by omega
  rcases h4 with rfl | rfl | rfl | rfl <;> rfl
theorem cells_each {w : World} {base : Nat} {a : Addr} {n : Nat} {cs : List Value} (h : w.cells? base a n = some cs) : cs.length = n ∧ ∀ i, i < n → w.cell? (a.add i) = cs[i]? := by
  unfold World.cells? at h
  split at h
  · refine ⟨by simpa using mapM_some_length h, fun i hi => ?_⟩
    exact mapM_some_get h i i (by simp [hi])
  · cases h
end Go.Proofs.YtonhmjfopidacaaDoor
