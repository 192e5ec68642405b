/- Lists of sets in memory: how a set is loaded from a list of sets, what a list that was handed in or made holds. -/
import Derived.Test.YtaanhijjhllckaaBlockMath
import Derived.Test.YtaanhijjhllckaaLater
import Derived.Laws.Rows
namespace Go.Proofs.Ytaanhijjhllckaa
set_option maxRecDepth 100000
open Go.RowKit

/-- at b, off lie the four words of s -/
def Set4 (w : World) (b off : Nat) (s : BitVec 256) : Prop := ∀ q, q < 4 → w.cell? ⟨b, off + q, none⟩ = some (.int .u64 (word s q : Int))
theorem addr_at (b off j : Nat) : (⟨b, off, none⟩ : Addr).add j = ⟨b, off + j, none⟩ := by
  unfold Addr.add
  split
  · rename_i h; subst h; rfl
  · rfl
theorem infoSet : (Try.prog.info? 24).map (·.size) = some 4 := by kernel_rfl
theorem loadSet {w : World} {b off : Nat} {s : BitVec 256} (h : Set4 w b off s) : (loadVar 24 ⟨b, off, none⟩).run Try.prog w = .ok (SV s) w := by
  have hl := run_loadCells_list (P := Try.prog) w ⟨b, off, none⟩ [.int .u64 (word s 0), .int .u64 (word s 1), .int .u64 (word s 2), .int .u64 (word s 3)] (fun j v hv => by
    rw [addr_at]
    match j with
    | 0 => simp at hv; subst hv; exact h 0 (by decide)
    | 1 => simp at hv; subst hv; exact h 1 (by decide)
    | 2 => simp at hv; subst hv; exact h 2 (by decide)
    | 3 => simp at hv; subst hv; exact h 3 (by decide)
    | j + 4 => simp at hv)
  have hi := infoSet
  cases hq : Try.prog.info? 24 with
  | none => simp [hq] at hi
  | some i =>
    have hs : i.size = 4 := by simpa [hq] using hi
    have hagg : (isAgg 24).run Try.prog w = .ok true w := by
      unfold isAgg
      rw [Sem.run_bind, run_underlying Try.underlying24 w]
      rfl
    simp only [List.length_cons, List.length_nil] at hl
    simp [loadVar, Sem.run_bind, hagg, sizeOf, typeInfo, hq, hs, hl]
theorem wpList_load_set {ops : Array Oper} {rest : List Oper} {o : Oper} {a : Act} {w : World} {Q : Exit → Act → World → Prop} (hgd : o.guard = none) (x : Operand) (ho : o.op = .load 24 x)
    (b off : Nat) (s : BitVec 256) (hx : a.eval x = .pointer (some ⟨b, off, none⟩)) (hc : Set4 w b off s)
    (h : wpList Try.prog ops Q rest (a.put o.dst (SV s)) w) : wpList Try.prog ops Q (o :: rest) a w :=
  wpList_plain hgd fun _ hK => by
    unfold Oper.wp execOp
    simp only [ho, hx, Instr.loadAt, Instr.sureAddr, Sem.run_bind, Sem.run_pure, Result.andThen_ok, loadSet hc]
    exact hK _ _ h
theorem wp_load_set {o : Oper} {a : Act} {w : World} {K : Act → World → Prop} {Q : Exit → Act → World → Prop} (x : Operand) (ho : o.op = .load 24 x)
    (b off : Nat) (s : BitVec 256) (hx : a.eval x = .pointer (some ⟨b, off, none⟩)) (hc : Set4 w b off s) (h : K (a.put o.dst (SV s)) w) : o.wp Try.prog a w K Q := by
  unfold Oper.wp execOp
  simp only [ho, hx, Instr.loadAt, Instr.sureAddr, Sem.run_bind, Sem.run_pure, Result.andThen_ok, loadSet hc]
  exact h
theorem quiet_load_set {o : Oper} {a : Act} {C : World → Prop} {K : Act → Prop} (x : Operand) (ho : o.op = .load 24 x) (b off : Nat) (s : BitVec 256) (hx : a.eval x = .pointer (some ⟨b, off, none⟩))
    (h : ∀ w, C w → Set4 w b off s) (hK : K (a.put o.dst (SV s))) : o.quiet Try.prog a C K :=
  ⟨SV s, fun w hw => by
    unfold Oper.quietAt execOp
    simp only [ho, hx, Instr.loadAt, Instr.sureAddr, Sem.run_bind, Sem.run_pure, Result.andThen_ok, loadSet (h w hw)]
    exact ⟨rfl, rfl⟩, hK⟩
theorem Set4.below {B : Nat} {w w' : World} {b off : Nat} {s : BitVec 256} (h : Set4 w b off s) (hb : Below B w w') (hlt : b < B) : Set4 w' b off s :=
  fun q hq => by rw [hb.cell (p := ⟨b, off + q, none⟩) hlt]; exact h q hq
theorem Set4.lt {w : World} {b off : Nat} {s : BitVec 256} (h : Set4 w b off s) : b < w.heap.size := World.block_lt_of_cell? w _ (h 0 (by decide))
theorem SetAt.four {w : World} {b : Nat} {s : BitVec 256} (h : SetAt w b s) : Set4 w b 0 s := fun q hq => by rw [Nat.zero_add]; exact h.cell q hq

/-- a list of sets -/
def SetsAt (w : World) (a : Option Addr) (n cap : Nat) (L : List (BitVec 256)) : Prop :=
  n = L.length ∧ n ≤ maxLen ∧ (n = 0 ∨ ∃ b off, a = some ⟨b, off, none⟩ ∧ n ≤ cap ∧ b < w.heap.size ∧ ∀ j, j < n → Set4 w b (off + j * 4) (L.getD j 0))
theorem SetsAt.below {B : Nat} {w w' : World} {a : Option Addr} {n cap : Nat} {L : List (BitVec 256)} (h : SetsAt w a n cap L) (hb : Below B w w') (hB : B = w.heap.size) : SetsAt w' a n cap L := by
  obtain ⟨h1, h2, h3⟩ := h
  refine ⟨h1, h2, ?_⟩
  rcases h3 with h3 | ⟨b, off, e1, e2, e3, e4⟩
  · exact .inl h3
  · exact .inr ⟨b, off, e1, e2, Nat.lt_of_lt_of_le e3 hb.size, fun j hj => (e4 j hj).below hb (by omega)⟩
theorem setsAt_alloc {w : World} {a : Option Addr} {n cap : Nat} {L : List (BitVec 256)} (h : SetsAt w a n cap L) (o : Obj) : SetsAt (w.alloc o) a n cap L := h.below ((Below.refl _ _).alloc (Nat.le_refl _) o) rfl
theorem SetsAt.grown {w w' : World} {row : Option Nat} {a : Option Addr} {n cap : Nat} {L : List (BitVec 256)} (h : SetsAt w a n cap L) (hg : w.grownBy w' row) (hne : ∀ x, a = some x → some x.block ≠ row) : SetsAt w' a n cap L := by
  obtain ⟨h1, h2, h3⟩ := h
  refine ⟨h1, h2, ?_⟩
  rcases h3 with h3 | ⟨b, off, e1, e2, e3, e4⟩
  · exact .inl h3
  · exact .inr ⟨b, off, e1, e2, Nat.lt_of_lt_of_le e3 hg.size, fun j hj q hq => by rw [World.cell?_of_block (hg.block b e3 (hne _ e1))]; exact e4 j hj q hq⟩
/-- the cells of a list of sets -/
def setCells (L : List (BitVec 256)) : List Value := L.flatMap fun s => [.int .u64 (word s 0 : Int), .int .u64 (word s 1 : Int), .int .u64 (word s 2 : Int), .int .u64 (word s 3 : Int)]
theorem setCells_length (L : List (BitVec 256)) : (setCells L).length = L.length * 4 := by
  induction L with
  | nil => rfl
  | cons r L ih => simp [setCells] at ih ⊢; omega
theorem setCells_append (a b : List (BitVec 256)) : setCells (a ++ b) = setCells a ++ setCells b := by simp [setCells]
theorem setCells_one (s : BitVec 256) : setCells [s] = [.int .u64 (word s 0 : Int), .int .u64 (word s 1 : Int), .int .u64 (word s 2 : Int), .int .u64 (word s 3 : Int)] := rfl
theorem setCells_get (L : List (BitVec 256)) (j : Nat) (hj : j < L.length) (q : Nat) (hq : q < 4) : (setCells L)[j * 4 + q]? = some (.int .u64 (word (L.getD j 0) q : Int)) := by
  induction L generalizing j with
  | nil => simp at hj
  | cons r L ih =>
    have e : setCells (r :: L) = .int .u64 (word r 0 : Int) :: .int .u64 (word r 1 : Int) :: .int .u64 (word r 2 : Int) :: .int .u64 (word r 3 : Int) :: setCells L := rfl
    rw [e]
    cases j with
    | zero =>
      have h4 : q = 0 ∨ q = 1 ∨ q = 2 ∨ q = 3 := by omega
      rcases h4 with rfl | rfl | rfl | rfl <;> rfl
    | succ j =>
      have := ih j (by simpa using hj)
      rw [show (j + 1) * 4 + q = j * 4 + q + 1 + 1 + 1 + 1 from by omega]
      exact this
theorem info_set : (Try.prog.info? 24).map (fun i => (i.zero, i.size, i.bytes)) = some (some (.agg #[.int .u64 0, .int .u64 0, .int .u64 0, .int .u64 0]), 4, 32) := by kernel_rfl
/-- the call returns a new list of sets -/
def SetsRow (w : World) (L : List (BitVec 256)) (e : Ending) (w' : World) : Prop :=
  ∃ a cap, e = .returned (.slice a L.length cap) ∧ SetsAt w' a L.length cap L ∧ Below w.heap.size w w' ∧ (∀ x, a = some x → w.heap.size ≤ x.block ∧ x.off = 0)
theorem setsAt_of_owns {w : World} {base : Nat} {a : Option Addr} {cap : Nat} {L : List (BitVec 256)} (h : w.ownsRow base 24 4 (.slice a L.length cap) L.length (setCells L)) :
    SetsAt w a L.length cap L ∧ ∀ x, a = some x → base ≤ x.block ∧ x.off = 0 := by
  have hrow := h.2
  rcases hrow with ⟨h1, h0⟩ | ⟨g, c, cur, hv, hg, hblk, hnc, hcm, _⟩
  · injection h1 with e1 e2 e3
    subst e1
    exact ⟨⟨rfl, by rw [h0]; decide, .inl h0⟩, fun x hx => by cases hx⟩
  · cases hv
    refine ⟨⟨rfl, Nat.le_trans hnc hcm, .inr ⟨g, 0, rfl, hnc, lt_of_block hblk, fun j hj q hq => ?_⟩⟩, fun x hx => by cases hx; exact ⟨hg, rfl⟩⟩
    rw [Nat.zero_add, h.cellAt _ (by omega)]
    exact setCells_get L j hj q hq
theorem sets_four (w : World) (x0 x1 x2 x3 : Value) (t : TypeId) : ∀ (j : Nat) (x : Value), [x0, x1, x2, x3][j]? = some x → (w.alloc (.cells #[x0, x1, x2, x3] t)).cell? ((⟨w.heap.size, 0, none⟩ : Addr).add j) = some x := by
  intro j x hx
  match j with
  | 0 => simp at hx; subst hx; simp [Addr.add]
  | 1 => simp at hx; subst hx; simp [Addr.add]
  | 2 => simp at hx; subst hx; simp [Addr.add]
  | 3 => simp at hx; subst hx; simp [Addr.add]
  | j + 4 => simp at hx
/-- nothing but block b has turned -/
structure Only (b : Nat) (w w' : World) : Prop where
  os : w'.os = w.os
  tape : w'.tape = w.tape
  output : w'.output = w.output
  size : w'.heap.size = w.heap.size
  block : ∀ k, k ≠ b → w'.heap[k]? = w.heap[k]?
theorem Only.below {B b : Nat} {a w w' : World} (h : Only b w w') (hb : Below B a w) (hB : B ≤ b) : Below B a w' :=
  hb.trans ⟨h.os, h.tape, h.output, by rw [h.size]; exact Nat.le_refl _, fun k hk => h.block k (by omega)⟩
theorem Only.setAt {b c : Nat} {w w' : World} {s : BitVec 256} (h : Only b w w') (hc : c ≠ b) (hs : SetAt w c s) : SetAt w' c s := by
  unfold SetAt at *
  rw [h.block c hc]; exact hs
theorem Only.cell {b : Nat} {w w' : World} (h : Only b w w') {a : Addr} (ha : a.block ≠ b) : w'.cell? a = w.cell? a := World.cell?_of_block (h.block a.block ha)
theorem only_row (w : World) (g : Nat) (cs : Array Value) : Only g w (w.setRow g cs) := ⟨rfl, rfl, rfl, by simp [World.setRow], fun k hk => setRow_other w g k cs hk⟩
theorem SetAt.row {w : World} {b : Nat} {s : BitVec 256} (h : SetAt w b s) (t : BitVec 256) : SetAt (w.setRow b #[.int .u64 (word t 0), .int .u64 (word t 1), .int .u64 (word t 2), .int .u64 (word t 3)]) b t := setRow_heap w b _ _ _ _ h
theorem wpList_store_set {ops : Array Oper} {rest : List Oper} {o : Oper} {a : Act} {w : World} {Q : Exit → Act → World → Prop} (hgd : o.guard = none) (x y : Operand) (ho : o.op = .store 24 x y)
    (b : Nat) (s t : BitVec 256) (hx : a.eval x = .pointer (some ⟨b, 0, none⟩)) (hy : a.eval y = SV t) (hb : SetAt w b s)
    (h : ∀ w', SetAt w' b t → Only b w w' → wpList Try.prog ops Q rest (a.put o.dst undef) w') : wpList Try.prog ops Q (o :: rest) a w :=
  wpList_store_row hgd _ _ _ ho b _ hx hy _ _ hb infoSet (by simp) (by simp [Value.oneCell']) (h _ (hb.row t) (only_row _ _ _))
theorem Only.owns {b base n size : Nat} {t : TypeId} {w w' : World} {v : Value} {xs : List Value} (h : Only b w w') (ho : w.ownsRow base t size v n xs) (hne : some b ≠ v.ownBlock) : w'.ownsRow base t size v n xs := by
  obtain ⟨h1, h2 | ⟨g, cap, cur, hv, hg, hblk, hr⟩⟩ := ho
  · exact ⟨h1, .inl h2⟩
  · refine ⟨h1, .inr ⟨g, cap, cur, hv, hg, ?_, hr⟩⟩
    rw [h.block g (fun e => hne (by rw [hv, ← e]; rfl))]; exact hblk
theorem own_ne_low {b base n size : Nat} {t : TypeId} {w : World} {v : Value} {xs : List Value} (ho : w.ownsRow base t size v n xs) (hb : b < base) : some b ≠ v.ownBlock :=
  fun e => by have := (ho.lt b e.symm).1; omega
theorem own_ne_new {b base n size : Nat} {t : TypeId} {w : World} {v : Value} {xs : List Value} (ho : w.ownsRow base t size v n xs) (hb : w.heap.size ≤ b) : some b ≠ v.ownBlock :=
  fun e => by have := (ho.lt b e.symm).2; omega
theorem SetAt.grown {w w' : World} {b : Nat} {s : BitVec 256} {row : Option Nat} (h : SetAt w b s) (hg : w.grownBy w' row) (hne : some b ≠ row) : SetAt w' b s := by
  have hlt := setAt_lt h
  unfold SetAt at *
  rw [hg.block b hlt hne]; exact h
theorem wp_store_set {o : Oper} {a : Act} {w : World} {K : Act → World → Prop} {Q : Exit → Act → World → Prop} (x y : Operand) (ho : o.op = .store 24 x y)
    (b : Nat) (s t : BitVec 256) (hx : a.eval x = .pointer (some ⟨b, 0, none⟩)) (hy : a.eval y = SV t) (hb : SetAt w b s)
    (h : ∀ w', SetAt w' b t → Only b w w' → K (a.put o.dst undef) w') : o.wp Try.prog a w K Q :=
  wp_store_row _ _ _ ho b _ hx hy _ _ hb infoSet (by simp) (by simp [Value.oneCell']) (h _ (hb.row t) (only_row _ _ _))
/-- what a new block holds, then filled -/
theorem setAt_new (w : World) : SetAt (w.alloc (.cells #[.int .u64 0, .int .u64 0, .int .u64 0, .int .u64 0] 24)) w.heap.size 0 := setAt_start w _ rfl
theorem results_set {fn : Func} {p : Tmp} (h : fn.results = #[.cell p 24]) (tmps : Array Value) (w : World) (b : Nat) (s : BitVec 256) (hp : tmps.getD p undef = .pointer (some ⟨b, 0, none⟩)) (hs : SetAt w b s) :
    (results fn tmps).run Try.prog w = .ok (SV s) w := results_cell_row h tmps w b _ _ _ _ hp hs Try.underlying24 rfl (show _ = some 4 from infoSet)
theorem sets_open {w : World} {base : Nat} {a : Option Addr} {n cap : Nat} {L : List (BitVec 256)} (h : SetsAt w a n cap L) (ho : ∀ x, a = some x → base ≤ x.block ∧ x.off = 0) (hn : 0 < n) :
    ∃ g, a = some ⟨g, 0, none⟩ ∧ n ≤ cap ∧ base ≤ g ∧ g < w.heap.size ∧ ∀ j, j < n → Set4 w g (j * 4) (L.getD j 0) := by
  obtain ⟨h1, h2, h3⟩ := h
  rcases h3 with h3 | ⟨b, off, rfl, e2, e3, e4⟩
  · omega
  · obtain ⟨hb, ho'⟩ := ho _ rfl
    have hz : off = 0 := ho'
    subst hz
    exact ⟨b, rfl, e2, hb, e3, fun j hj => by have := e4 j hj; rwa [Nat.zero_add] at this⟩
theorem sets_lit (w : World) (L : List (BitVec 256)) (cs : Array Value) (h : cs.toList = setCells L) (hn : L.length ≤ maxLen) : SetsAt (w.alloc (.cells cs 24)) (some ⟨w.heap.size, 0, none⟩) L.length L.length L := by
  refine ⟨rfl, hn, .inr ⟨w.heap.size, 0, rfl, Nat.le_refl _, by simp, fun j hj q hq => ?_⟩⟩
  have hc : cs[j * 4 + q]? = some (.int .u64 (word (L.getD j 0) q : Int)) := by
    rw [← Array.getElem?_toList, h]; exact setCells_get L j hj q hq
  simp [hc]
end Go.Proofs.Ytaanhijjhllckaa
