/- What the laws of layer 13 share: the order tells -1, 0 or 1; what is not wide is slim. -/
import Derived.Test.YtkekdfelcfoilaaRankAwake
import Derived.Test.YtkekdfelcfoilaaRankOrd
import Derived.Test.YtkekdfelcfoilaaValWide
namespace Go.Proofs.Ytkekdfelcfoilaa
namespace V
set_option maxRecDepth 100000
open Go.RowKit
def Tri (n : Int) : Prop := n = -1 ∨ n = 0 ∨ n = 1
theorem tri_or {a b : Int} (ha : Tri a) (hb : Tri b) : Tri (orI a b) := by
  unfold orI; split
  · exact hb
  · exact ha
theorem ordL_tri : ∀ (l m : List Vl), (∀ x ∈ l, ∀ y ∈ m, Tri (ord x y)) → Tri (ordL l m)
  | [], [], _ => .inr (.inl rfl)
  | [], _ :: _, _ => .inr (.inr rfl)
  | _ :: _, [], _ => .inl rfl
  | x :: l, y :: m, h => by
    rw [ordL_cons]
    exact tri_or (h x (by simp) y (by simp)) (ordL_tri l m fun a ha b hb => h a (by simp [ha]) b (by simp [hb]))
theorem ord_tri : ∀ (n : Nat) (x y : Vl), x.count ≤ n → Tri (ord x y)
  | 0, x, _, h => absurd (Vl.count_pos x) (by omega)
  | n + 1, x, y, h => by
    rw [ord_eq, part_or]
    refine tri_or (cmpI_three _ _) (tri_or (cmpI_three _ _) ?_)
    split
    · exact cmpI_three _ _
    · refine ordL_tri _ _ fun a ha b _ => ord_tri n a b ?_
      have := counts_mem ha
      have := cntd_counts x
      omega
theorem ord_any (x y : Vl) : Tri (ord x y) := ord_tri _ x y (Nat.le_refl _)
theorem tri_neg {n : Int} (h : Tri n) : wrap64 (-n) = -n := by
  rcases h with rfl | rfl | rfl <;> (unfold wrap64; omega)
theorem KeptR.low {w w' : World} (h : KeptR w.heap.size w w') : Below w.heap.size w w' := h.below (Nat.le_refl _) (Nat.le_refl _)
end V
end Go.Proofs.Ytkekdfelcfoilaa
