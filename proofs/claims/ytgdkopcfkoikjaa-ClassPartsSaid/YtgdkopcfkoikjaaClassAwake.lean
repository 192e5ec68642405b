/- The walk of the layer's awake. -/
import Derived.Test.YtgdkopcfkoikjaaClassIn
namespace Go.Proofs.Ytgdkopcfkoikjaa
open Go.RowKit
theorem awake_facts2 : (elems cDigit).length = 10 ∧ cDigit.getLsbD 55 = true := by decide +kernel
set_option maxHeartbeats 2000000 in
theorem awake2_any (w : World) : Calls Try.prog 6 #[] w fun e w' => e = .returned (.bool true) ∧ Below w.heap.size w w' := by
  obtain ⟨f1, f2⟩ := awake_facts2
  have hlen := len_any cDigit
  rw [f1] at hlen
  have hhas := has_lit cDigit 55
  rw [f2] at hhas
  have hnm := named_str [100, 105, 103, 105, 116]
  rw [show classOf [100, 105, 103, 105, 116] = (cDigit, true) from rfl] at hnm
  unfold strv at hnm
  clear f1 f2
  go_enter Try.func6, Try.ntmps6
  go_wp2_with fail
  refine (hnm _).mono ?_
  rintro e w1 ⟨rfl, hb1⟩
  go_wp2_with fail
  refine (hlen _).mono ?_
  rintro e w2 ⟨rfl, hb2⟩
  have hc2 : ∀ o, w2.cell? ⟨w1.heap.size, o, none⟩ = _ := fun o => hb2.cell (p := ⟨w1.heap.size, o, none⟩) (by simp)
  simp at hc2
  have hz2 : w1.heap.size < w2.heap.size := by have := hb2.size; simp at this; omega
  go_wp2_with fail
  refine (hhas 55 (by omega) (by decide) _).mono ?_
  rintro e w3 ⟨rfl, hb3⟩
  go_wp2_with fail
  refine (names_any _).mono ?_
  rintro e w4 ⟨g, rfl, hg0, hg1, _, hb4⟩
  go_wp2_with fail
  go_ret
  refine ⟨rfl, ?_⟩
  have B1 : Below w.heap.size w w1 := hb1
  have B2 : Below w.heap.size w w2 := (B1.alloc hb1.size _).trans (hb2.mono (by have := hb1.size; simp; omega))
  have B3 := B2.trans (hb3.mono (by have := B2.size; omega))
  have B4 := B3.trans (hb4.mono (by have := B3.size; omega))
  exact B4
end Go.Proofs.Ytgdkopcfkoikjaa
