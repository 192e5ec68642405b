/- Lists of sets in memory: how a set is loaded from a list of sets, what a list that was handed in or made holds. -/
import Derived.Test.YtblgjcolmaidlaaBlockMath
import Derived.Test.YtblgjcolmaidlaaLater
import Derived.Laws.Rows
namespace Go.Proofs.Ytblgjcolmaidlaa
set_option maxRecDepth 100000
open Go.RowKit

/-- at b, off lie the four words of s -/
def Set4 (w : World) (b off : Nat) (s : BitVec 256) : Prop := ∀ q, q < 4 → w.cell? ⟨b, off + q, none⟩ = some (.int .u64 (word s q : Int))
theorem addr_at (b off j : Nat) : (⟨b, off, none⟩ : Addr).add j = ⟨b, off + j, none⟩ := by
  unfold Addr.add
  split
  · rename_i h; subst h; rfl
  · rfl
theorem Set4.below {B : Nat} {w w' : World} {b off : Nat} {s : BitVec 256} (h : Set4 w b off s) (hb : Below B w w') (hlt : b < B) : Set4 w' b off s :=
  fun q hq => by rw [hb.cell (p := ⟨b, off + q, none⟩) hlt]; exact h q hq
theorem Set4.lt {w : World} {b off : Nat} {s : BitVec 256} (h : Set4 w b off s) : b < w.heap.size := World.block_lt_of_cell? w _ (h 0 (by decide))
/-- a list of sets -/
def SetsAt (w : World) (a : Option Addr) (n cap : Nat) (L : List (BitVec 256)) : Prop :=
  n = L.length ∧ n ≤ maxLen ∧ (n = 0 ∨ ∃ b off, a = some ⟨b, off, none⟩ ∧ n ≤ cap ∧ b < w.heap.size ∧ ∀ j, j < n → Set4 w b (off + j * 4) (L.getD j 0))
theorem SetsAt.below {B : Nat} {w w' : World} {a : Option Addr} {n cap : Nat} {L : List (BitVec 256)} (h : SetsAt w a n cap L) (hb : Below B w w') (hB : B = w.heap.size) : SetsAt w' a n cap L := by
  obtain ⟨h1, h2, h3⟩ := h
  refine ⟨h1, h2, ?_⟩
  rcases h3 with h3 | ⟨b, off, e1, e2, e3, e4⟩
  · exact .inl h3
  · exact .inr ⟨b, off, e1, e2, Nat.lt_of_lt_of_le e3 hb.size, fun j hj => (e4 j hj).below hb (by omega)⟩
theorem setsAt_alloc {w : World} {a : Option Addr} {n cap : Nat} {L : List (BitVec 256)} (h : SetsAt w a n cap L) (o : Obj) : SetsAt (w.alloc o) a n cap L := h.below ((Below.refl _ _).alloc (Nat.le_refl _) o) rfl
theorem SetsAt.grown {w w' : World} {row : Option Nat} {a : Option Addr} {n cap : Nat} {L : List (BitVec 256)} (h : SetsAt w a n cap L) (hg : w.grownBy w' row) (hne : ∀ x, a = some x → some x.block ≠ row) : SetsAt w' a n cap L := by
  obtain ⟨h1, h2, h3⟩ := h
  refine ⟨h1, h2, ?_⟩
  rcases h3 with h3 | ⟨b, off, e1, e2, e3, e4⟩
  · exact .inl h3
  · exact .inr ⟨b, off, e1, e2, Nat.lt_of_lt_of_le e3 hg.size, fun j hj q hq => by rw [World.cell?_of_block (hg.block b e3 (hne _ e1))]; exact e4 j hj q hq⟩
/-- the cells of a list of sets -/
def setCells (L : List (BitVec 256)) : List Value := L.flatMap fun s => [.int .u64 (word s 0 : Int), .int .u64 (word s 1 : Int), .int .u64 (word s 2 : Int), .int .u64 (word s 3 : Int)]
theorem setCells_length (L : List (BitVec 256)) : (setCells L).length = L.length * 4 := by
  induction L with
  | nil => rfl
  | cons r L ih => simp [setCells] at ih ⊢; omega
theorem setCells_append (a b : List (BitVec 256)) : setCells (a ++ b) = setCells a ++ setCells b := by simp [setCells]
theorem setCells_one (s : BitVec 256) : setCells [s] = [.int .u64 (word s 0 : Int), .int .u64 (word s 1 : Int), .int .u64 (word s 2 : Int), .int .u64 (word s 3 : Int)] := rfl
theorem setCells_get (L : List (BitVec 256)) (j : Nat) (hj : j < L.length) (q : Nat) (hq : q < 4) : (setCells L)[j * 4 + q]? = some (.int .u64 (word (L.getD j 0) q : Int)) := by
  induction L generalizing j with
  | nil => simp at hj
  | cons r L ih =>
    have e : setCells (r :: L) = .int .u64 (word r 0 : Int) :: .int .u64 (word r 1 : Int) :: .int .u64 (word r 2 : Int) :: .int .u64 (word r 3 : Int) :: setCells L := rfl
    rw [e]
    cases j with
    | zero =>
      have h4 : q = 0 ∨ q = 1 ∨ q = 2 ∨ q = 3 := by omega
      rcases h4 with rfl | rfl | rfl | rfl <;> rfl
    | succ j =>
      have := ih j (by simpa using hj)
      rw [show (j + 1) * 4 + q = j * 4 + q + 1 + 1 + 1 + 1 from by omega]
      exact this
/-- the call returns a new list of sets -/
def SetsRow (w : World) (L : List (BitVec 256)) (e : Ending) (w' : World) : Prop :=
  ∃ a cap, e = .returned (.slice a L.length cap) ∧ SetsAt w' a L.length cap L ∧ Below w.heap.size w w' ∧ (∀ x, a = some x → w.heap.size ≤ x.block ∧ x.off = 0)
theorem sets_four (w : World) (x0 x1 x2 x3 : Value) (t : TypeId) : ∀ (j : Nat) (x : Value), [x0, x1, x2, x3][j]? = some x → (w.alloc (.cells #[x0, x1, x2, x3] t)).cell? ((⟨w.heap.size, 0, none⟩ : Addr).add j) = some x := by
  intro j x hx
  match j with
  | 0 => simp at hx; subst hx; simp [Addr.add]
  | 1 => simp at hx; subst hx; simp [Addr.add]
  | 2 => simp at hx; subst hx; simp [Addr.add]
  | 3 => simp at hx; subst hx; simp [Addr.add]
  | j + 4 => simp at hx
/-- nothing but block b has turned -/
structure Only (b : Nat) (w w' : World) : Prop where
  os : w'.os = w.os
  tape : w'.tape = w.tape
  output : w'.output = w.output
  size : w'.heap.size = w.heap.size
  block : ∀ k, k ≠ b → w'.heap[k]? = w.heap[k]?
theorem Only.below {B b : Nat} {a w w' : World} (h : Only b w w') (hb : Below B a w) (hB : B ≤ b) : Below B a w' :=
  hb.trans ⟨h.os, h.tape, h.output, by rw [h.size]; exact Nat.le_refl _, fun k hk => h.block k (by omega)⟩
theorem Only.cell {b : Nat} {w w' : World} (h : Only b w w') {a : Addr} (ha : a.block ≠ b) : w'.cell? a = w.cell? a := World.cell?_of_block (h.block a.block ha)
theorem only_row (w : World) (g : Nat) (cs : Array Value) : Only g w (w.setRow g cs) := ⟨rfl, rfl, rfl, by simp [World.setRow], fun k hk => setRow_other w g k cs hk⟩
theorem Only.owns {b base n size : Nat} {t : TypeId} {w w' : World} {v : Value} {xs : List Value} (h : Only b w w') (ho : w.ownsRow base t size v n xs) (hne : some b ≠ v.ownBlock) : w'.ownsRow base t size v n xs := by
  obtain ⟨h1, h2 | ⟨g, cap, cur, hv, hg, hblk, hr⟩⟩ := ho
  · exact ⟨h1, .inl h2⟩
  · refine ⟨h1, .inr ⟨g, cap, cur, hv, hg, ?_, hr⟩⟩
    rw [h.block g (fun e => hne (by rw [hv, ← e]; rfl))]; exact hblk
theorem own_ne_low {b base n size : Nat} {t : TypeId} {w : World} {v : Value} {xs : List Value} (ho : w.ownsRow base t size v n xs) (hb : b < base) : some b ≠ v.ownBlock :=
  fun e => by have := (ho.lt b e.symm).1; omega
theorem own_ne_new {b base n size : Nat} {t : TypeId} {w : World} {v : Value} {xs : List Value} (ho : w.ownsRow base t size v n xs) (hb : w.heap.size ≤ b) : some b ≠ v.ownBlock :=
  fun e => by have := (ho.lt b e.symm).2; omega
theorem sets_open {w : World} {base : Nat} {a : Option Addr} {n cap : Nat} {L : List (BitVec 256)} (h : SetsAt w a n cap L) (ho : ∀ x, a = some x → base ≤ x.block ∧ x.off = 0) (hn : 0 < n) :
    ∃ g, a = some ⟨g, 0, none⟩ ∧ n ≤ cap ∧ base ≤ g ∧ g < w.heap.size ∧ ∀ j, j < n → Set4 w g (j * 4) (L.getD j 0) := by
  obtain ⟨h1, h2, h3⟩ := h
  rcases h3 with h3 | ⟨b, off, rfl, e2, e3, e4⟩
  · omega
  · obtain ⟨hb, ho'⟩ := ho _ rfl
    have hz : off = 0 := ho'
    subst hz
    exact ⟨b, rfl, e2, hb, e3, fun j hj => by have := e4 j hj; rwa [Nat.zero_add] at this⟩
end Go.Proofs.Ytblgjcolmaidlaa
