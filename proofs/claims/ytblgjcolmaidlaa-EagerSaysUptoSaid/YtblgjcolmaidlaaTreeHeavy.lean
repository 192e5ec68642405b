/- A node loaded out of memory; the walk of law 5's heavy. -/
import Derived.Test.YtblgjcolmaidlaaOpenNode
import Derived.Deep.LoopGhost
namespace Go.Proofs.Ytblgjcolmaidlaa
set_option maxRecDepth 100000
open Go.RowKit
theorem nodes_get (w : World) (b : Nat) : ∀ (l : List Nd) (off : Nat), nodesAt w l b off → ∀ j (hj : j < l.length), ∃ cs : List Value, cs.length = 9 ∧ (∀ q, q < 9 → w.cell? ⟨b, off + j * 9 + q, none⟩ = cs[q]?) ∧ Nd.at w l[j] cs
  | [], _, _, j, hj => by simp at hj
  | x :: l, off, h, j, hj => by
    rw [nodesAt_cons] at h
    cases j with
    | zero =>
      obtain ⟨cs, h1, h2, h3⟩ := h.1
      exact ⟨cs, h1, fun q hq => by rw [Nat.zero_mul, Nat.add_zero]; exact h2 q hq, h3⟩
    | succ j =>
      obtain ⟨cs, h1, h2, h3⟩ := nodes_get w b l (off + 9) h.2 j (by simpa using hj)
      exact ⟨cs, h1, fun q hq => by rw [show off + (j + 1) * 9 + q = off + 9 + j * 9 + q from by omega]; exact h2 q hq, h3⟩
/-- nine cells lie at b, off -/
def Node9 (w : World) (b off : Nat) (cs : List Value) : Prop := cs.length = 9 ∧ ∀ q, q < 9 → w.cell? ⟨b, off + q, none⟩ = cs[q]?
/-- more than the law asks of -/
def heavyN : Nat → Nd → Bool
  | 0, _ => true
  | f + 1, .mk _ _ _ _ _ l => decide (40 < l.length) || l.any (heavyN f)
end Go.Proofs.Ytblgjcolmaidlaa
