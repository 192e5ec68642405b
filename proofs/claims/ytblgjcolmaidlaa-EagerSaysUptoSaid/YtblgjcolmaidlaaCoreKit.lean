/- Cores in blocks of their own, stored, appended, made of lists. -/
import Derived.Test.YtblgjcolmaidlaaCoreBig
import Derived.Test.YtblgjcolmaidlaaTreeOps
import Derived.Test.YtblgjcolmaidlaaBlockMem
import Derived.BigQuiet
namespace Go.Proofs.Ytblgjcolmaidlaa
namespace K
set_option maxRecDepth 100000
open Go.RowKit
theorem at_cells {w : World} {x : Cr} {cs : List Value} (hat : Cr.at w x cs) : ∃ (s : BitVec 256) (n : Int) (a : Option Addr) (cap : Nat), x = .mk x.kind s n x.nodes ∧
    cs = [.int .i64 x.kind, .int .u64 (word s 0), .int .u64 (word s 1), .int .u64 (word s 2), .int .u64 (word s 3), .int .i64 n, .slice a x.nodes.length cap] := by
  cases x with
  | mk k s n l =>
    rw [at_mk] at hat
    obtain ⟨_, _, a, cap, hcs, _, _⟩ := hat
    exact ⟨s, n, a, cap, rfl, hcs⟩
theorem at_lit {W : World} {x : Cr} {cs : List Value} (h : Cr.at W x cs) : ∃ (k : Int) (s : BitVec 256) (n : Int) (a : Option Addr) (len cap : Nat), cs = [.int .i64 k, .int .u64 (word s 0), .int .u64 (word s 1), .int .u64 (word s 2), .int .u64 (word s 3), .int .i64 n, .slice a len cap] := by
  obtain ⟨s, n, a, cap, _, e⟩ := at_cells h
  exact ⟨_, s, n, a, _, cap, e⟩
theorem at_len {W : World} {N : Cr} {cs : List Value} (h : Cr.at W N cs) : cs.length = 7 := by
  obtain ⟨_, _, _, _, _, e⟩ := at_cells h
  rw [e]; rfl
theorem coresAt_cells {W : World} {b : Nat} : ∀ (L : List (Cr × List Value)) (off : Nat), (∀ p ∈ L, Cr.at W p.1 p.2) → (∀ q, q < L.length * 7 → W.cell? ⟨b, off + q, none⟩ = (L.flatMap (·.2))[q]?) → coresAt W (L.map (·.1)) b off
  | [], off, _, _ => by rw [List.map_nil, coresAt_nil]; trivial
  | p :: L, off, h, hc => by
    rw [List.map_cons, coresAt_cons]
    have hp := at_len (h p (by simp))
    refine ⟨⟨p.2, hp, fun q hq => ?_, h p (by simp)⟩, coresAt_cells L (off + 7) (fun r hr => h r (by simp [hr])) fun q hq => ?_⟩
    · rw [hc q (by simp; omega), List.flatMap_cons, List.getElem?_append_left (by omega)]
    · rw [Nat.add_assoc, hc (7 + q) (by simp; omega), List.flatMap_cons, List.getElem?_append_right (by omega)]
      congr 1
      omega
theorem at_plain {W : World} {k n : Int} (s : BitVec 256) (hk : fits64 k) (hn : fits64 n) :
    Cr.at W (.mk k s n []) [.int .i64 k, .int .u64 (word s 0), .int .u64 (word s 1), .int .u64 (word s 2), .int .u64 (word s 3), .int .i64 n, .slice none 0 0] := by
  rw [at_mk]
  exact ⟨hk, hn, none, 0, rfl, by decide, .inl rfl⟩
mutual
/-- what is there in one world is there in the other: so is a node -/
theorem Cr.at_same {w w' : World} (h : ∀ p v, w.cell? p = some v → w'.cell? p = some v) (hs : w.heap.size ≤ w'.heap.size) : ∀ (x : Cr) (cs : List Value), Cr.at w x cs → Cr.at w' x cs
  | .mk k s n l, cs, ha => by
    rw [at_mk] at ha ⊢
    obtain ⟨h1, h4, a, cap, h5, h6, h7⟩ := ha
    refine ⟨h1, h4, a, cap, h5, h6, ?_⟩
    rcases h7 with h7 | ⟨b, off, e1, e2, e3, e4⟩
    · exact .inl h7
    · exact .inr ⟨b, off, e1, e2, Nat.lt_of_lt_of_le e3 hs, coresAt_same h hs l b off e4⟩
theorem coresAt_same {w w' : World} (h : ∀ p v, w.cell? p = some v → w'.cell? p = some v) (hs : w.heap.size ≤ w'.heap.size) : ∀ (l : List Cr) (b off : Nat), coresAt w l b off → coresAt w' l b off
  | [], b, off, _ => by rw [coresAt_nil]; trivial
  | x :: l, b, off, ha => by
    rw [coresAt_cons] at ha ⊢
    obtain ⟨⟨cs, h1, h2, h3⟩, h4⟩ := ha
    refine ⟨⟨cs, h1, fun q hq => ?_, Cr.at_same h hs x cs h3⟩, coresAt_same h hs l b (off + 7) h4⟩
    have h5 := h2 q hq
    rw [List.getElem?_eq_getElem (by omega)] at h5 ⊢
    exact h _ _ h5
end
abbrev zeroCore : Value := .agg #[.int .i64 0, .int .u64 0, .int .u64 0, .int .u64 0, .int .u64 0, .int .i64 0, .slice none 0 0]
theorem at_cell_one {w : World} {x : Cr} {cs : List Value} (h : Cr.at w x cs) : ∀ u ∈ cs, u.oneCell' = true := by
  obtain ⟨_, _, _, _, _, e⟩ := at_cells h
  rw [e]
  simp only [List.forall_mem_cons]
  exact ⟨rfl, rfl, rfl, rfl, rfl, rfl, rfl, fun p hp => by cases hp⟩
theorem alloc_below (w : World) (o : Obj) : Below w.heap.size w (w.alloc o) := (Below.refl _ _).alloc (Nat.le_refl _) _
end K
end Go.Proofs.Ytblgjcolmaidlaa
