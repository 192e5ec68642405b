/- The document's own trees in memory: a node is 261 cells: kind, 256 booleans, bounds, number, nodes. -/
import Derived.Test.YtaanhijjhllckaaRefSmall
import Derived.Test.YtaanhijjhllckaaOpenNode
namespace Go.Proofs.Ytaanhijjhllckaa
set_option maxRecDepth 100000
open Go.RowKit
/-- the cells of a node of the document's own -/
def rdCells (k : Int) (s : BitVec 256) (lo hi n : Int) (v : Value) : List Value := .int .i64 k :: ((bc s.getLsbD).toList ++ [.int .i64 lo, .int .i64 hi, .int .i64 n, v])
theorem rdCells_length (k : Int) (s : BitVec 256) (lo hi n : Int) (v : Value) : (rdCells k s lo hi n v).length = 261 := by
  unfold rdCells
  rw [List.length_cons, List.length_append, Array.length_toList, bc_size]
  rfl
mutual
/-- a node of the document's own: the same node -/
def Nd.ref (w : World) : Nd → List Value → Prop
  | .mk k s lo hi n l, cs => fits64 k ∧ fits64 lo ∧ fits64 hi ∧ fits64 n ∧ ∃ (a : Option Addr) (cap : Nat),
      cs = rdCells k s lo hi n (.slice a l.length cap) ∧ l.length ≤ maxLen ∧
      (l.length = 0 ∨ ∃ b off, a = some ⟨b, off, none⟩ ∧ l.length ≤ cap ∧ b < w.heap.size ∧ nodesRef w l b off)
def nodesRef (w : World) : List Nd → Nat → Nat → Prop
  | [], _, _ => True
  | x :: l, b, off => (∃ cs : List Value, cs.length = 261 ∧ (∀ q, q < 261 → w.cell? ⟨b, off + q, none⟩ = cs[q]?) ∧ Nd.ref w x cs) ∧ nodesRef w l b (off + 261)
end
theorem ref_mk (w : World) (k : Int) (s : BitVec 256) (lo hi n : Int) (l : List Nd) (cs : List Value) : Nd.ref w (.mk k s lo hi n l) cs = (fits64 k ∧ fits64 lo ∧ fits64 hi ∧ fits64 n ∧ ∃ (a : Option Addr) (cap : Nat),
      cs = rdCells k s lo hi n (.slice a l.length cap) ∧ l.length ≤ maxLen ∧
      (l.length = 0 ∨ ∃ b off, a = some ⟨b, off, none⟩ ∧ l.length ≤ cap ∧ b < w.heap.size ∧ nodesRef w l b off)) := by rw [Nd.ref]
theorem nodesRef_cons (w : World) (x : Nd) (l : List Nd) (b off : Nat) : nodesRef w (x :: l) b off = ((∃ cs : List Value, cs.length = 261 ∧ (∀ q, q < 261 → w.cell? ⟨b, off + q, none⟩ = cs[q]?) ∧ Nd.ref w x cs) ∧ nodesRef w l b (off + 261)) := by rw [nodesRef]
theorem nodesRef_nil (w : World) (b off : Nat) : nodesRef w [] b off = True := by rw [nodesRef]
theorem ref_len {w : World} {x : Nd} {cs : List Value} (h : Nd.ref w x cs) : cs.length = 261 := by
  cases x with
  | mk k s lo hi n l =>
    rw [ref_mk] at h
    obtain ⟨_, _, _, _, _, _, rfl, _⟩ := h
    exact rdCells_length ..
mutual
/-- what is there in one world is there in the other: so is a node -/
theorem Nd.ref_same {w w' : World} (h : ∀ p v, w.cell? p = some v → w'.cell? p = some v) (hs : w.heap.size ≤ w'.heap.size) : ∀ (x : Nd) (cs : List Value), Nd.ref w x cs → Nd.ref w' x cs
  | .mk k s lo hi n l, cs, ha => by
    rw [ref_mk] at ha ⊢
    obtain ⟨h1, h2, h3, h4, a, cap, h5, h6, h7⟩ := ha
    refine ⟨h1, h2, h3, h4, a, cap, h5, h6, ?_⟩
    rcases h7 with h7 | ⟨b, off, e1, e2, e3, e4⟩
    · exact .inl h7
    · exact .inr ⟨b, off, e1, e2, Nat.lt_of_lt_of_le e3 hs, nodesRef_same h hs l b off e4⟩
theorem nodesRef_same {w w' : World} (h : ∀ p v, w.cell? p = some v → w'.cell? p = some v) (hs : w.heap.size ≤ w'.heap.size) : ∀ (l : List Nd) (b off : Nat), nodesRef w l b off → nodesRef w' l b off
  | [], b, off, _ => by rw [nodesRef_nil]; trivial
  | x :: l, b, off, ha => by
    rw [nodesRef_cons] at ha ⊢
    obtain ⟨⟨cs, h1, h2, h3⟩, h4⟩ := ha
    refine ⟨⟨cs, h1, fun q hq => ?_, Nd.ref_same h hs x cs h3⟩, nodesRef_same h hs l b (off + 261) h4⟩
    have h5 := h2 q hq
    rw [List.getElem?_eq_getElem (by omega)] at h5 ⊢
    exact h _ _ h5
end
theorem Nd.ref_below {w w' : World} (hb : Below w.heap.size w w') {x : Nd} {cs : List Value} (h : Nd.ref w x cs) : Nd.ref w' x cs :=
  Nd.ref_same (fun p v hp => by rw [hb.cell (p := p) (World.block_lt_of_cell? w p hp)]; exact hp) hb.size x cs h
theorem nodesRef_get (w : World) (b : Nat) : ∀ (l : List Nd) (off : Nat), nodesRef w l b off → ∀ j (hj : j < l.length), ∃ cs : List Value, cs.length = 261 ∧ (∀ q, q < 261 → w.cell? ⟨b, off + j * 261 + q, none⟩ = cs[q]?) ∧ Nd.ref w l[j] cs
  | [], _, _, j, hj => by simp at hj
  | x :: l, off, h, j, hj => by
    rw [nodesRef_cons] at h
    cases j with
    | zero =>
      obtain ⟨cs, h1, h2, h3⟩ := h.1
      exact ⟨cs, h1, fun q hq => by rw [Nat.zero_mul, Nat.add_zero]; exact h2 q hq, h3⟩
    | succ j =>
      obtain ⟨cs, h1, h2, h3⟩ := nodesRef_get w b l (off + 261) h.2 j (by simpa using hj)
      exact ⟨cs, h1, fun q hq => by rw [show off + (j + 1) * 261 + q = off + 261 + j * 261 + q from by omega]; exact h2 q hq, h3⟩
/-- 261 cells lie at b, off -/
def Ref261 (w : World) (b off : Nat) (cs : List Value) : Prop := cs.length = 261 ∧ ∀ q, q < 261 → w.cell? ⟨b, off + q, none⟩ = cs[q]?
theorem infoRefNode : (Try.prog.info? 36).map (·.size) = some 261 := by kernel_rfl
theorem loadRefNode {w : World} {b off : Nat} {cs : List Value} (h : Ref261 w b off cs) : (loadVar 36 ⟨b, off, none⟩).run Try.prog w = .ok (.agg cs.toArray) w := by
  have hl := run_loadCells_list (P := Try.prog) w ⟨b, off, none⟩ cs (fun j v hv => by
    have hj : j < 261 := by have := (List.getElem?_eq_some_iff.mp hv).1; rw [h.1] at this; exact this
    rw [addr_at, h.2 j hj]; exact hv)
  have hi := infoRefNode
  rw [h.1] at hl
  cases hq : Try.prog.info? 36 with
  | none => simp [hq] at hi
  | some i =>
    have hs : i.size = 261 := by simpa [hq] using hi
    have hagg : (isAgg 36).run Try.prog w = .ok true w := by
      unfold isAgg
      rw [Sem.run_bind, run_underlying Try.underlying36 w]
      rfl
    simp [loadVar, Sem.run_bind, hagg, sizeOf, typeInfo, hq, hs, hl]
end Go.Proofs.Ytaanhijjhllckaa
