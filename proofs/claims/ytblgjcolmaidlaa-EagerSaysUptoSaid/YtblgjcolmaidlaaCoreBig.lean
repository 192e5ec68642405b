/- A core loaded out of memory; the walk of law 8's big. -/
import Derived.Test.YtblgjcolmaidlaaOpenCore
import Derived.Test.YtblgjcolmaidlaaTreeHeavy
import Derived.Deep.LoopGhost
namespace Go.Proofs.Ytblgjcolmaidlaa
namespace K
set_option maxRecDepth 100000
open Go.RowKit
theorem nodes_get (w : World) (b : Nat) : ∀ (l : List Cr) (off : Nat), coresAt w l b off → ∀ j (hj : j < l.length), ∃ cs : List Value, cs.length = 7 ∧ (∀ q, q < 7 → w.cell? ⟨b, off + j * 7 + q, none⟩ = cs[q]?) ∧ Cr.at w l[j] cs
  | [], _, _, j, hj => by simp at hj
  | x :: l, off, h, j, hj => by
    rw [coresAt_cons] at h
    cases j with
    | zero =>
      obtain ⟨cs, h1, h2, h3⟩ := h.1
      exact ⟨cs, h1, fun q hq => by rw [Nat.zero_mul, Nat.add_zero]; exact h2 q hq, h3⟩
    | succ j =>
      obtain ⟨cs, h1, h2, h3⟩ := nodes_get w b l (off + 7) h.2 j (by simpa using hj)
      exact ⟨cs, h1, fun q hq => by rw [show off + (j + 1) * 7 + q = off + 7 + j * 7 + q from by omega]; exact h2 q hq, h3⟩
/-- nine cells lie at b, off -/
def Core7 (w : World) (b off : Nat) (cs : List Value) : Prop := cs.length = 7 ∧ ∀ q, q < 7 → w.cell? ⟨b, off + q, none⟩ = cs[q]?
/-- more than the law asks of -/
def bigN : Nat → Cr → Bool
  | 0, _ => true
  | f + 1, .mk _ _ _ l => decide (3 < l.length) || l.any (bigN f)
end K
end Go.Proofs.Ytblgjcolmaidlaa
