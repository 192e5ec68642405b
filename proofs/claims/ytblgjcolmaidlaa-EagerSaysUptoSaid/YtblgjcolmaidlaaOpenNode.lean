/- A node of a pattern that was handed in, with all that hangs on it: opened. -/
import Derived.Test.YtblgjcolmaidlaaOpenSets
import Derived.Test.YtblgjcolmaidlaaTreeMath
namespace Go.Proofs.Ytblgjcolmaidlaa
set_option maxRecDepth 100000
open Go.ChangeShapes Go.WideShapes Go.ChangeAt Go.RowKit

/-- a number that a field holds -/
def fits64 (n : Int) : Prop := (Lit.int .i64 n).wf = true
mutual
/-- the nine cells of a node, in a world -/
def Nd.at (w : World) : Nd → List Value → Prop
  | .mk k s lo hi n l, cs => fits64 k ∧ fits64 lo ∧ fits64 hi ∧ fits64 n ∧ ∃ (a : Option Addr) (cap : Nat),
      cs = [.int .i64 k, .int .u64 (word s 0), .int .u64 (word s 1), .int .u64 (word s 2), .int .u64 (word s 3), .int .i64 lo, .int .i64 hi, .int .i64 n, .slice a l.length cap] ∧ l.length ≤ maxLen ∧
      (l.length = 0 ∨ ∃ b off, a = some ⟨b, off, none⟩ ∧ l.length ≤ cap ∧ b < w.heap.size ∧ nodesAt w l b off)
/-- nodes one behind the other -/
def nodesAt (w : World) : List Nd → Nat → Nat → Prop
  | [], _, _ => True
  | x :: l, b, off => (∃ cs : List Value, cs.length = 9 ∧ (∀ q, q < 9 → w.cell? ⟨b, off + q, none⟩ = cs[q]?) ∧ Nd.at w x cs) ∧ nodesAt w l b (off + 9)
end
theorem at_mk (w : World) (k : Int) (s : BitVec 256) (lo hi n : Int) (l : List Nd) (cs : List Value) : Nd.at w (.mk k s lo hi n l) cs = (fits64 k ∧ fits64 lo ∧ fits64 hi ∧ fits64 n ∧ ∃ (a : Option Addr) (cap : Nat),
      cs = [.int .i64 k, .int .u64 (word s 0), .int .u64 (word s 1), .int .u64 (word s 2), .int .u64 (word s 3), .int .i64 lo, .int .i64 hi, .int .i64 n, .slice a l.length cap] ∧ l.length ≤ maxLen ∧
      (l.length = 0 ∨ ∃ b off, a = some ⟨b, off, none⟩ ∧ l.length ≤ cap ∧ b < w.heap.size ∧ nodesAt w l b off)) := by rw [Nd.at]
theorem nodesAt_cons (w : World) (x : Nd) (l : List Nd) (b off : Nat) : nodesAt w (x :: l) b off = ((∃ cs : List Value, cs.length = 9 ∧ (∀ q, q < 9 → w.cell? ⟨b, off + q, none⟩ = cs[q]?) ∧ Nd.at w x cs) ∧ nodesAt w l b (off + 9)) := by rw [nodesAt]
theorem nodesAt_nil (w : World) (b off : Nat) : nodesAt w [] b off = True := by rw [nodesAt]
mutual
theorem Nd.at_below {B : Nat} {w w' : World} (hb : Below B w w') (hB : w.heap.size ≤ B) : ∀ (x : Nd) (cs : List Value), Nd.at w x cs → Nd.at w' x cs
  | .mk k s lo hi n l, cs, h => by
    rw [at_mk] at h ⊢
    obtain ⟨h1, h2, h3, h4, a, cap, h5, h6, h7⟩ := h
    refine ⟨h1, h2, h3, h4, a, cap, h5, h6, ?_⟩
    rcases h7 with h7 | ⟨b, off, e1, e2, e3, e4⟩
    · exact .inl h7
    · exact .inr ⟨b, off, e1, e2, Nat.lt_of_lt_of_le e3 hb.size, nodesAt_below hb hB l b off (by omega) e4⟩
theorem nodesAt_below {B : Nat} {w w' : World} (hb : Below B w w') (hB : w.heap.size ≤ B) : ∀ (l : List Nd) (b off : Nat), b < B → nodesAt w l b off → nodesAt w' l b off
  | [], b, off, _, _ => by rw [nodesAt_nil]; trivial
  | x :: l, b, off, hlt, h => by
    rw [nodesAt_cons] at h ⊢
    obtain ⟨⟨cs, h1, h2, h3⟩, h4⟩ := h
    exact ⟨⟨cs, h1, fun q hq => by rw [hb.cell (p := ⟨b, off + q, none⟩) hlt]; exact h2 q hq, Nd.at_below hb hB x cs h3⟩, nodesAt_below hb hB l b (off + 9) hlt h4⟩
end
theorem nodes_from (w : World) (b : Nat) : ∀ (n off : Nat), (∀ i, i < n → ∃ (cs : List Value) (x : Nd), cs.length = 9 ∧ (∀ q, q < 9 → w.cell? ⟨b, off + i * 9 + q, none⟩ = cs[q]?) ∧ Nd.at w x cs) → ∃ l : List Nd, l.length = n ∧ nodesAt w l b off
  | 0, off, _ => ⟨[], rfl, by rw [nodesAt_nil]; trivial⟩
  | n + 1, off, h => by
    obtain ⟨cs, x, h1, h2, h3⟩ := h 0 (by omega)
    obtain ⟨l, hl, hl2⟩ := nodes_from w b n (off + 9) (fun i hi => by
      obtain ⟨cs', x', g1, g2, g3⟩ := h (i + 1) (by omega)
      exact ⟨cs', x', g1, fun q hq => by have := g2 q hq; rw [show off + (i + 1) * 9 + q = off + 9 + i * 9 + q from by omega] at this; exact this, g3⟩)
    refine ⟨x :: l, by simp [hl], ?_⟩
    rw [nodesAt_cons]
    exact ⟨⟨cs, h1, fun q hq => by have := h2 q hq; rw [Nat.zero_mul, Nat.add_zero] at this; exact this, h3⟩, hl2⟩
theorem cellsInt : Try.prog.cellsOf 3 = 1 := by kernel_rfl
theorem cellsBool : Try.prog.cellsOf 4 = 1 := by kernel_rfl
end Go.Proofs.Ytblgjcolmaidlaa
