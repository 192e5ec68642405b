/- The walk of awake. -/
import Derived.Test.YtgdkopcfkoikjaaDoorSetCmp
namespace Go.Proofs.YtgdkopcfkoikjaaDoor
open Go.RowKit

/-- new runs, as whoever reads them wants them told -/
def RunsAt (w : World) (l : List (Nat × Nat)) (e : Ending) (w' : World) : Prop :=
  ∃ a cap, e = .returned (.slice a l.length cap) ∧ Below w.heap.size w w' ∧ l.length ≤ 256 ∧
    ∀ j, j < l.length → ∃ g, a = some ⟨g, 0, none⟩ ∧ w.heap.size ≤ g ∧ g < w'.heap.size ∧ l.length ≤ cap ∧ w'.cell? ⟨g, j * 2, none⟩ = some (.int .u8 ((l.getD j (0, 0)).1 : Int)) ∧ w'.cell? ⟨g, j * 2 + 1, none⟩ = some (.int .u8 ((l.getD j (0, 0)).2 : Int))
theorem runCells_get (l : List (Nat × Nat)) (j : Nat) (hj : j < l.length) : (runCells l)[j * 2]? = some (u8v (l.getD j (0, 0)).1) ∧ (runCells l)[j * 2 + 1]? = some (u8v (l.getD j (0, 0)).2) := by
  induction l generalizing j with
  | nil => simp at hj
  | cons r l ih =>
    have e : runCells (r :: l) = u8v r.1 :: u8v r.2 :: runCells l := rfl
    rw [e]
    cases j with
    | zero => exact ⟨rfl, rfl⟩
    | succ j =>
      have := ih j (by simpa using hj)
      rw [show (j + 1) * 2 = j * 2 + 1 + 1 from by omega]
      exact this
theorem runs_at (s : BitVec 256) (w : World) (hT : TabAt 1 Lib.deBruijn64tab w) : Calls Tryd.prog 22 #[SV s] w (RunsAt w (runsOf (elems s))) := by
  refine (runs_any s w hT).mono ?_
  rintro e w' ⟨v, rfl, hown, hb⟩
  obtain ⟨a, c, rfl⟩ := owns_form hown
  have hl := runsOf_length (elems s)
  have hl' := elems_length_le s
  refine ⟨a, c, rfl, hb, by omega, fun j hj => ?_⟩
  have hrow := hown.2
  rcases hrow with ⟨hv, h0⟩ | ⟨g, cap, cur, hv, hg, hblk, hnc, _⟩
  · omega
  · cases hv
    obtain ⟨h1, h2⟩ := runCells_get _ j hj
    exact ⟨g, rfl, hg, lt_of_block hblk, hnc, by rw [hown.cellAt _ (by omega)]; exact h1, by rw [hown.cellAt _ (by omega)]; exact h2⟩
theorem awake_facts : runsOf (elems (setOf (upTo 97 99))) = [(97, 99)] ∧ (setOf (upTo 97 99)).getLsbD 98 = true ∧ (setOf (upTo 97 99)).getLsbD 100 = false ∧ (elems (setOf (upTo 97 99))).length = 3 := by decide +kernel
set_option maxHeartbeats 2000000 in
theorem awake_any (w : World) (hT : TabAt 1 Lib.deBruijn64tab w) :
    Calls Tryd.prog 4 #[] w fun e w' => e = .returned (.bool true) ∧ Below w.heap.size w w' := by
  obtain ⟨f1, f2, f3, f4⟩ := awake_facts
  obtain ⟨S, hS⟩ : ∃ S, S = setOf (upTo 97 99) := ⟨_, rfl⟩
  have hr := range_lit 97 99
  rw [← hS] at f1 f2 f3 f4 hr
  have hruns := runs_at S
  rw [f1] at hruns
  have hlen := len_any S
  rw [f4] at hlen
  have h98 := has_lit S 98
  rw [f2] at h98
  have h100 := has_lit S 100
  rw [f3] at h100
  clear f1 f2 f3 f4 hS
  go_enter Tryd.func4, Tryd.ntmps4
  go_wp2_with fail
  refine (hr _ _ (by omega) (by omega) (by decide) (by decide) _).mono ?_
  rintro e w1 ⟨rfl, hb1⟩
  have hT1 := tab_alloc (tab_below hT hb1 (tab_pos hT))
  go_wp2_with fail
  refine (hruns _ (hT1 _)).mono ?_
  rintro e w2 ⟨a, cap, rfl, hb2, _, hcells⟩
  obtain ⟨g, rfl, hg0, hg1, hcap, hc0, hc1⟩ := hcells 0 (by decide)
  simp at hc0 hc1 hcap
  clear hcells
  have hc2 := (bcell hb2).1
  have hz2 : w1.heap.size < w2.heap.size := by have := hb2.size; simp at this; omega
  simp at hg0
  go_wp2_with fail
  refine (h98 98 (by omega) (by decide) _).mono ?_
  rintro e w3 ⟨rfl, hb3⟩
  have hc3 := (bcell hb3).1
  have hz3 : w1.heap.size < w3.heap.size := by have := hb3.size; omega
  go_wp2_with fail
  refine (h100 100 (by omega) (by decide) _).mono ?_
  rintro e w4 ⟨rfl, hb4⟩
  have hc4 := (bcell hb4).1
  have hz4 : w1.heap.size < w4.heap.size := by have := hb4.size; omega
  go_wp2_with fail
  refine (hlen _).mono ?_
  rintro e w5 ⟨rfl, hb5⟩
  go_wp2_with fail
  go_ret
  refine ⟨rfl, ?_⟩
  refine Below.trans (Below.trans (Below.trans (Below.trans ((hb1).alloc hb1.size _) (hb2.mono (by have := hb1.size; simp; omega))) (hb3.mono (by have := hb1.size; omega))) (hb4.mono (by have := hb1.size; omega))) (hb5.mono (by have := hb1.size; omega))
end Go.Proofs.YtgdkopcfkoikjaaDoor
