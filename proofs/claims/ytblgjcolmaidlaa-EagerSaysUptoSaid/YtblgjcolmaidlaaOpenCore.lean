/- A core that was handed in, with all that hangs on it: opened. -/
import Derived.Test.YtblgjcolmaidlaaOpenNode
import Derived.Test.YtblgjcolmaidlaaCoreMath
namespace Go.Proofs.Ytblgjcolmaidlaa
namespace K
set_option maxRecDepth 100000
open Go.ChangeShapes Go.WideShapes Go.ChangeAt Go.RowKit

mutual
/-- the nine cells of a node, in a world -/
def Cr.at (w : World) : Cr → List Value → Prop
  | .mk k s n l, cs => fits64 k ∧ fits64 n ∧ ∃ (a : Option Addr) (cap : Nat),
      cs = [.int .i64 k, .int .u64 (word s 0), .int .u64 (word s 1), .int .u64 (word s 2), .int .u64 (word s 3), .int .i64 n, .slice a l.length cap] ∧ l.length ≤ maxLen ∧
      (l.length = 0 ∨ ∃ b off, a = some ⟨b, off, none⟩ ∧ l.length ≤ cap ∧ b < w.heap.size ∧ coresAt w l b off)
/-- nodes one behind the other -/
def coresAt (w : World) : List Cr → Nat → Nat → Prop
  | [], _, _ => True
  | x :: l, b, off => (∃ cs : List Value, cs.length = 7 ∧ (∀ q, q < 7 → w.cell? ⟨b, off + q, none⟩ = cs[q]?) ∧ Cr.at w x cs) ∧ coresAt w l b (off + 7)
end
theorem at_mk (w : World) (k : Int) (s : BitVec 256) (n : Int) (l : List Cr) (cs : List Value) : Cr.at w (.mk k s n l) cs = (fits64 k ∧ fits64 n ∧ ∃ (a : Option Addr) (cap : Nat),
      cs = [.int .i64 k, .int .u64 (word s 0), .int .u64 (word s 1), .int .u64 (word s 2), .int .u64 (word s 3), .int .i64 n, .slice a l.length cap] ∧ l.length ≤ maxLen ∧
      (l.length = 0 ∨ ∃ b off, a = some ⟨b, off, none⟩ ∧ l.length ≤ cap ∧ b < w.heap.size ∧ coresAt w l b off)) := by rw [Cr.at]
theorem coresAt_cons (w : World) (x : Cr) (l : List Cr) (b off : Nat) : coresAt w (x :: l) b off = ((∃ cs : List Value, cs.length = 7 ∧ (∀ q, q < 7 → w.cell? ⟨b, off + q, none⟩ = cs[q]?) ∧ Cr.at w x cs) ∧ coresAt w l b (off + 7)) := by rw [coresAt]
theorem coresAt_nil (w : World) (b off : Nat) : coresAt w [] b off = True := by rw [coresAt]
mutual
theorem Cr.at_below {B : Nat} {w w' : World} (hb : Below B w w') (hB : w.heap.size ≤ B) : ∀ (x : Cr) (cs : List Value), Cr.at w x cs → Cr.at w' x cs
  | .mk k s n l, cs, h => by
    rw [at_mk] at h ⊢
    obtain ⟨h1, h4, a, cap, h5, h6, h7⟩ := h
    refine ⟨h1, h4, a, cap, h5, h6, ?_⟩
    rcases h7 with h7 | ⟨b, off, e1, e2, e3, e4⟩
    · exact .inl h7
    · exact .inr ⟨b, off, e1, e2, Nat.lt_of_lt_of_le e3 hb.size, coresAt_below hb hB l b off (by omega) e4⟩
theorem coresAt_below {B : Nat} {w w' : World} (hb : Below B w w') (hB : w.heap.size ≤ B) : ∀ (l : List Cr) (b off : Nat), b < B → coresAt w l b off → coresAt w' l b off
  | [], b, off, _, _ => by rw [coresAt_nil]; trivial
  | x :: l, b, off, hlt, h => by
    rw [coresAt_cons] at h ⊢
    obtain ⟨⟨cs, h1, h2, h3⟩, h4⟩ := h
    exact ⟨⟨cs, h1, fun q hq => by rw [hb.cell (p := ⟨b, off + q, none⟩) hlt]; exact h2 q hq, Cr.at_below hb hB x cs h3⟩, coresAt_below hb hB l b (off + 7) hlt h4⟩
end
theorem nodes_from (w : World) (b : Nat) : ∀ (n off : Nat), (∀ i, i < n → ∃ (cs : List Value) (x : Cr), cs.length = 7 ∧ (∀ q, q < 7 → w.cell? ⟨b, off + i * 7 + q, none⟩ = cs[q]?) ∧ Cr.at w x cs) → ∃ l : List Cr, l.length = n ∧ coresAt w l b off
  | 0, off, _ => ⟨[], rfl, by rw [coresAt_nil]; trivial⟩
  | n + 1, off, h => by
    obtain ⟨cs, x, h1, h2, h3⟩ := h 0 (by omega)
    obtain ⟨l, hl, hl2⟩ := nodes_from w b n (off + 7) (fun i hi => by
      obtain ⟨cs', x', g1, g2, g3⟩ := h (i + 1) (by omega)
      exact ⟨cs', x', g1, fun q hq => by have := g2 q hq; rw [show off + (i + 1) * 7 + q = off + 7 + i * 7 + q from by omega] at this; exact this, g3⟩)
    refine ⟨x :: l, by simp [hl], ?_⟩
    rw [coresAt_cons]
    exact ⟨⟨cs, h1, fun q hq => by have := h2 q hq; rw [Nat.zero_mul, Nat.add_zero] at this; exact this, h3⟩, hl2⟩
end K
end Go.Proofs.Ytblgjcolmaidlaa
