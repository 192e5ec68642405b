/- The document's own cores in memory: a core is 259 cells: kind, 256 booleans, number, cores. Its own Size, its own deep. -/
import Derived.Test.YtblgjcolmaidlaaRefSmall
import Derived.Test.YtblgjcolmaidlaaCoreKit
import Derived.Test.YtblgjcolmaidlaaCoreGood
import Derived.Great.Ranges
namespace Go.Proofs.Ytblgjcolmaidlaa.K
set_option maxRecDepth 100000
open Go.RowKit
/-- the cells of a node of the document's own -/
def rcCells (k : Int) (s : BitVec 256) (n : Int) (v : Value) : List Value := .int .i64 k :: ((bc s.getLsbD).toList ++ [.int .i64 n, v])
theorem rcCells_length (k : Int) (s : BitVec 256) (n : Int) (v : Value) : (rcCells k s n v).length = 259 := by
  unfold rcCells
  rw [List.length_cons, List.length_append, Array.length_toList, bc_size]
  rfl
mutual
/-- a node of the document's own: the same node -/
def Cr.ref (w : World) : Cr → List Value → Prop
  | .mk k s n l, cs => fits64 k ∧ fits64 n ∧ ∃ (a : Option Addr) (cap : Nat),
      cs = rcCells k s n (.slice a l.length cap) ∧ l.length ≤ maxLen ∧
      (l.length = 0 ∨ ∃ b off, a = some ⟨b, off, none⟩ ∧ l.length ≤ cap ∧ b < w.heap.size ∧ coresRef w l b off)
def coresRef (w : World) : List Cr → Nat → Nat → Prop
  | [], _, _ => True
  | x :: l, b, off => (∃ cs : List Value, cs.length = 259 ∧ (∀ q, q < 259 → w.cell? ⟨b, off + q, none⟩ = cs[q]?) ∧ Cr.ref w x cs) ∧ coresRef w l b (off + 259)
end
theorem refc_mk (w : World) (k : Int) (s : BitVec 256) (n : Int) (l : List Cr) (cs : List Value) : Cr.ref w (.mk k s n l) cs = (fits64 k ∧ fits64 n ∧ ∃ (a : Option Addr) (cap : Nat),
      cs = rcCells k s n (.slice a l.length cap) ∧ l.length ≤ maxLen ∧
      (l.length = 0 ∨ ∃ b off, a = some ⟨b, off, none⟩ ∧ l.length ≤ cap ∧ b < w.heap.size ∧ coresRef w l b off)) := by rw [Cr.ref]
theorem coresRef_cons (w : World) (x : Cr) (l : List Cr) (b off : Nat) : coresRef w (x :: l) b off = ((∃ cs : List Value, cs.length = 259 ∧ (∀ q, q < 259 → w.cell? ⟨b, off + q, none⟩ = cs[q]?) ∧ Cr.ref w x cs) ∧ coresRef w l b (off + 259)) := by rw [coresRef]
theorem coresRef_nil (w : World) (b off : Nat) : coresRef w [] b off = True := by rw [coresRef]
theorem refc_len {w : World} {x : Cr} {cs : List Value} (h : Cr.ref w x cs) : cs.length = 259 := by
  cases x with
  | mk k s n l =>
    rw [refc_mk] at h
    obtain ⟨_, _, _, _, rfl, _⟩ := h
    exact rcCells_length ..
mutual
/-- what is there in one world is there in the other: so is a node -/
theorem Cr.ref_same {w w' : World} (h : ∀ p v, w.cell? p = some v → w'.cell? p = some v) (hs : w.heap.size ≤ w'.heap.size) : ∀ (x : Cr) (cs : List Value), Cr.ref w x cs → Cr.ref w' x cs
  | .mk k s n l, cs, ha => by
    rw [refc_mk] at ha ⊢
    obtain ⟨h1, h4, a, cap, h5, h6, h7⟩ := ha
    refine ⟨h1, h4, a, cap, h5, h6, ?_⟩
    rcases h7 with h7 | ⟨b, off, e1, e2, e3, e4⟩
    · exact .inl h7
    · exact .inr ⟨b, off, e1, e2, Nat.lt_of_lt_of_le e3 hs, coresRef_same h hs l b off e4⟩
theorem coresRef_same {w w' : World} (h : ∀ p v, w.cell? p = some v → w'.cell? p = some v) (hs : w.heap.size ≤ w'.heap.size) : ∀ (l : List Cr) (b off : Nat), coresRef w l b off → coresRef w' l b off
  | [], b, off, _ => by rw [coresRef_nil]; trivial
  | x :: l, b, off, ha => by
    rw [coresRef_cons] at ha ⊢
    obtain ⟨⟨cs, h1, h2, h3⟩, h4⟩ := ha
    refine ⟨⟨cs, h1, fun q hq => ?_, Cr.ref_same h hs x cs h3⟩, coresRef_same h hs l b (off + 259) h4⟩
    have h5 := h2 q hq
    rw [List.getElem?_eq_getElem (by omega)] at h5 ⊢
    exact h _ _ h5
end
theorem Cr.ref_below {w w' : World} (hb : Below w.heap.size w w') {x : Cr} {cs : List Value} (h : Cr.ref w x cs) : Cr.ref w' x cs :=
  Cr.ref_same (fun p v hp => by rw [hb.cell (p := p) (World.block_lt_of_cell? w p hp)]; exact hp) hb.size x cs h
theorem coresRef_get (w : World) (b : Nat) : ∀ (l : List Cr) (off : Nat), coresRef w l b off → ∀ j (hj : j < l.length), ∃ cs : List Value, cs.length = 259 ∧ (∀ q, q < 259 → w.cell? ⟨b, off + j * 259 + q, none⟩ = cs[q]?) ∧ Cr.ref w l[j] cs
  | [], _, _, j, hj => by simp at hj
  | x :: l, off, h, j, hj => by
    rw [coresRef_cons] at h
    cases j with
    | zero =>
      obtain ⟨cs, h1, h2, h3⟩ := h.1
      exact ⟨cs, h1, fun q hq => by rw [Nat.zero_mul, Nat.add_zero]; exact h2 q hq, h3⟩
    | succ j =>
      obtain ⟨cs, h1, h2, h3⟩ := coresRef_get w b l (off + 259) h.2 j (by simpa using hj)
      exact ⟨cs, h1, fun q hq => by rw [show off + (j + 1) * 259 + q = off + 259 + j * 259 + q from by omega]; exact h2 q hq, h3⟩
/-- 259 cells lie at b, off -/
def RefC (w : World) (b off : Nat) (cs : List Value) : Prop := cs.length = 259 ∧ ∀ q, q < 259 → w.cell? ⟨b, off + q, none⟩ = cs[q]?
theorem countsC_take : ∀ (l : List Cr) (j : Nat) (hj : j < l.length), counts (l.take (j + 1)) = counts (l.take j) + l[j].count
  | x :: l, 0, _ => by
    rw [List.take_succ_cons, List.take_zero, List.take_zero]
    unfold counts
    unfold counts
    simp
  | x :: l, j + 1, hj => by
    rw [List.take_succ_cons, List.take_succ_cons]
    unfold counts
    rw [countsC_take l j (by simpa using hj)]
    simp only [List.getElem_cons_succ]
    omega
mutual
def Cr.deep : Cr → Nat
  | .mk _ _ _ l => 1 + deeps l
def deeps : List Cr → Nat
  | [] => 0
  | x :: l => max x.deep (deeps l)
end
theorem deep_mk (k : Int) (s : BitVec 256) (n : Int) (l : List Cr) : (Cr.mk k s n l).deep = 1 + deeps l := by rw [Cr.deep]
mutual
theorem Cr.deep_le : ∀ x : Cr, x.deep ≤ x.count
  | .mk k s n l => by
    rw [deep_mk, count_mk]
    have := deeps_le l
    omega
theorem deeps_le : ∀ l : List Cr, deeps l ≤ counts l
  | [] => by unfold deeps; omega
  | x :: l => by
    unfold deeps counts
    have h1 := Cr.deep_le x
    have h2 := deeps_le l
    omega
end
theorem deepsC_take : ∀ (l : List Cr) (j : Nat) (hj : j < l.length), deeps (l.take (j + 1)) = max (deeps (l.take j)) l[j].deep
  | x :: l, 0, _ => by
    rw [List.take_succ_cons, List.take_zero, List.take_zero]
    unfold deeps
    unfold deeps
    simp
  | x :: l, j + 1, hj => by
    rw [List.take_succ_cons, List.take_succ_cons]
    unfold deeps
    rw [deepsC_take l j (by simpa using hj)]
    simp only [List.getElem_cons_succ]
    omega
end Go.Proofs.Ytblgjcolmaidlaa.K
