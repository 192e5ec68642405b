/- What the walk of the document's own formed leans on: a number in a box of its own; a node's fields in its box; guarded loads. -/
import Derived.Test.YtaanhijjhllckaaRefNode
import Derived.Test.YtaanhijjhllckaaRefMem
import Derived.Test.YtaanhijjhllckaaRefEq
import Derived.BigGuardPart
namespace Go.Proofs.Ytaanhijjhllckaa
set_option maxRecDepth 100000
open Go.RowKit
/-- block R apart, all that is there is as before -/
structure Bar (R : Nat) (w w' : World) : Prop where
  os : w'.os = w.os
  tape : w'.tape = w.tape
  output : w'.output = w.output
  size : w.heap.size ≤ w'.heap.size
  block : ∀ k, k < w.heap.size → k ≠ R → w'.heap[k]? = w.heap[k]?
theorem Bar.refl (R : Nat) (w : World) : Bar R w w := ⟨rfl, rfl, rfl, Nat.le_refl _, fun _ _ _ => rfl⟩
theorem Bar.trans {R : Nat} {a b c : World} (h : Bar R a b) (h' : Bar R b c) : Bar R a c :=
  ⟨h'.os.trans h.os, h'.tape.trans h.tape, h'.output.trans h.output, Nat.le_trans h.size h'.size, fun k hk hR => (h'.block k (Nat.lt_of_lt_of_le hk h.size) hR).trans (h.block k hk hR)⟩
theorem Bar.of_below {R : Nat} {w w' : World} (h : Below w.heap.size w w') : Bar R w w' := ⟨h.os, h.tape, h.output, h.size, fun k hk _ => h.block k hk⟩
theorem Bar.set (R : Nat) (w : World) (v : Value) : Bar R w (w.setCell ⟨R, 0, none⟩ v) := ⟨rfl, rfl, rfl, by simp, fun k _ hR => heap_setCell_other w _ k v hR⟩
theorem Bar.cell {R : Nat} {w w' : World} (h : Bar R w w') {p : Addr} (hp : p.block < w.heap.size) (hR : p.block ≠ R) : w'.cell? p = w.cell? p := World.cell?_of_block (h.block p.block hp hR)
/-- block R holds a number -/
def RInt (w : World) (R : Nat) (v : Int) : Prop := w.heap[R]? = some (.cells #[.int .i64 v] 3 (0, 0))
theorem RInt.lt {w : World} {R : Nat} {v : Int} (h : RInt w R v) : R < w.heap.size := (Array.getElem?_eq_some_iff.1 h).1
theorem RInt.cell {w : World} {R : Nat} {v : Int} (h : RInt w R v) : w.cell? ⟨R, 0, none⟩ = some (.int .i64 v) := by rw [cells_at h]; rfl
theorem RInt.free {w : World} {R : Nat} {v : Int} (h : RInt w R v) : w.frozen? ⟨R, 0, none⟩ = false := by
  unfold RInt at h
  simp [World.frozen?, h]
theorem RInt.below {w w' : World} {R : Nat} {v : Int} (h : RInt w R v) (hb : Below w.heap.size w w') : RInt w' R v := (hb.block R h.lt).trans h
theorem RInt.set {w : World} {R : Nat} {v : Int} (h : RInt w R v) (u : Int) : RInt (w.setCell ⟨R, 0, none⟩ (.int .i64 u)) R u := heap_setCell_same w R 0 _ _ _ h
mutual
theorem form_le : ∀ (x : Nd) (next n' : Nat), x.form next = some n' → n' ≤ next + x.count
  | .mk k s lo hi n l, next, n', h => by
    rw [form_mk] at h
    rw [count_mk]
    split at h
    · have h2 := forms_le k l _ n' h
      split at h2 <;> omega
    · cases h
theorem forms_le : ∀ (k : Int) (l : List Nd) (next n' : Nat), forms k l next = some n' → n' ≤ next + counts l
  | k, [], next, n', h => by
    rw [forms_nil] at h
    injection h with h
    unfold counts
    omega
  | k, x :: l, next, n', h => by
    rw [forms_cons] at h
    split at h
    · cases hx : x.form next with
      | none => rw [hx] at h; cases h
      | some q =>
        rw [hx] at h
        have h1 := form_le x next q hx
        have h2 := forms_le k l q n' h
        unfold counts
        omega
    · cases h
end
theorem eql_zero (s : BitVec 256) (w : World) : (Op.equalIn 10000 33 (BV s.getLsbD) (BV bNone)).run Try.prog w = .ok (decide (s = 0)) w := by
  rw [eql_ref]
  congr 1
  rw [Bool.eq_iff_iff, List.all_eq_true, decide_eq_true_eq]
  constructor
  · intro h
    apply BitVec.eq_of_getLsbD_eq
    intro c hc
    have := h c (List.mem_range.2 hc)
    simpa [bNone] using this
  · rintro rfl c _
    simp [bNone]
theorem wpList_load_refF {ops : Array Oper} {rest : List Oper} {o : Oper} {a : Act} {w : World} {Q : Exit → Act → World → Prop} (hw : Region.wanted o (yielded ops a.tmps) = true) (x : Operand) (ho : o.op = .load 33 x)
    (b off : Nat) (f : Nat → Bool) (hx : a.eval x = .pointer (some ⟨b, off, none⟩)) (hc : Ref256 w b off f) (F : Array Value) (hF : F = bc f)
    (h : wpList Try.prog ops Q rest (a.put o.dst (.agg F)) w) : wpList Try.prog ops Q (o :: rest) a w := by
  subst hF
  exact wpList_load_refAt_want hw x ho b off f hx hc h
theorem wpList_zero_refF {ops : Array Oper} {rest : List Oper} {o : Oper} {a : Act} {w : World} {Q : Exit → Act → World → Prop} (hw : Region.wanted o (yielded ops a.tmps) = true) (ho : o.op = .build 33 #[]) (F : Array Value) (hF : F = bc bNone)
    (h : wpList Try.prog ops Q rest (a.put o.dst (.agg F)) w) : wpList Try.prog ops Q (o :: rest) a w := by
  subst hF
  exact wpList_zero_ref_want hw ho h
theorem wpList_load_refG {ops : Array Oper} {rest : List Oper} {o : Oper} {a : Act} {w : World} {Q : Exit → Act → World → Prop} (hgd : o.guard = none) (x : Operand) (ho : o.op = .load 33 x)
    (b off : Nat) (f : Nat → Bool) (hx : a.eval x = .pointer (some ⟨b, off, none⟩)) (hc : Ref256 w b off f) (F : Array Value) (hF : F = bc f)
    (h : wpList Try.prog ops Q rest (a.put o.dst (.agg F)) w) : wpList Try.prog ops Q (o :: rest) a w := by
  subst hF
  exact wpList_load_refAt hgd x ho b off f hx hc h
theorem wpList_zero_refG {ops : Array Oper} {rest : List Oper} {o : Oper} {a : Act} {w : World} {Q : Exit → Act → World → Prop} (hgd : o.guard = none) (ho : o.op = .build 33 #[]) (F : Array Value) (hF : F = bc bNone)
    (h : wpList Try.prog ops Q rest (a.put o.dst (.agg F)) w) : wpList Try.prog ops Q (o :: rest) a w := by
  subst hF
  exact wpList_zero_ref hgd ho h
theorem wpList_load_refnode_want {ops : Array Oper} {rest : List Oper} {o : Oper} {a : Act} {w : World} {Q : Exit → Act → World → Prop} (hw : Region.wanted o (yielded ops a.tmps) = true) (x : Operand) (ho : o.op = .load 36 x)
    (b off : Nat) (cs : List Value) (hx : a.eval x = .pointer (some ⟨b, off, none⟩)) (hc : Ref261 w b off cs)
    (h : wpList Try.prog ops Q rest (a.put o.dst (.agg cs.toArray)) w) : wpList Try.prog ops Q (o :: rest) a w :=
  BigFrame.wpList_want hw fun _ hK => by
    unfold Oper.wp execOp
    simp only [ho, hx, Instr.loadAt, Instr.sureAddr, Sem.run_bind, Sem.run_pure, Result.andThen_ok, loadRefNode hc]
    exact hK _ _ h
/-- the fields of a node in a box -/
structure NCells (w : World) (b : Nat) (k : Int) (s : BitVec 256) (lo hi n : Int) (v : Value) : Prop where
  c0 : w.cell? ⟨b, 0, none⟩ = some (.int .i64 k)
  set : Ref256 w b 1 s.getLsbD
  c257 : w.cell? ⟨b, 257, none⟩ = some (.int .i64 lo)
  c258 : w.cell? ⟨b, 258, none⟩ = some (.int .i64 hi)
  c259 : w.cell? ⟨b, 259, none⟩ = some (.int .i64 n)
  c260 : w.cell? ⟨b, 260, none⟩ = some v
theorem rd_get (k : Int) (s : BitVec 256) (lo hi n : Int) (v : Value) (q : Nat) (hq : q < 256) : (rdCells k s lo hi n v)[1 + q]? = some (.bool (s.getLsbD q)) := by
  unfold rdCells
  rw [Nat.add_comm, List.getElem?_cons_succ, List.getElem?_append_left (by rw [Array.length_toList, bc_size]; exact hq), Array.getElem?_toList, bc_get _ _ hq]
theorem rd_tail (k : Int) (s : BitVec 256) (lo hi n : Int) (v : Value) (q : Nat) : (rdCells k s lo hi n v)[257 + q]? = ([.int .i64 lo, .int .i64 hi, .int .i64 n, v] : List Value)[q]? := by
  unfold rdCells
  rw [show 257 + q = (256 + q) + 1 from by omega, List.getElem?_cons_succ, List.getElem?_append_right (by rw [Array.length_toList, bc_size]; omega), Array.length_toList, bc_size]
  congr 1
  omega
theorem ncells_of {w : World} {b off : Nat} {k : Int} {s : BitVec 256} {lo hi n : Int} {v : Value} (h : ∀ q, q < 261 → w.cell? ⟨b, off + q, none⟩ = (rdCells k s lo hi n v)[q]?) (h0 : off = 0) : NCells w b k s lo hi n v := by
  subst h0
  simp only [Nat.zero_add] at h
  exact ⟨by rw [h 0 (by decide)]; rfl, fun c hc => by rw [h (1 + c) (by omega)]; exact rd_get k s lo hi n v c hc, by rw [h 257 (by decide)]; exact rd_tail k s lo hi n v 0, by rw [h 258 (by decide)]; exact rd_tail k s lo hi n v 1,
    by rw [h 259 (by decide)]; exact rd_tail k s lo hi n v 2, by rw [h 260 (by decide)]; exact rd_tail k s lo hi n v 3⟩
theorem ncells_box {w : World} {b : Nat} {k : Int} {s : BitVec 256} {lo hi n : Int} {v : Value} (h : RBox w b (rdCells k s lo hi n v).toArray) : NCells w b k s lo hi n v :=
  ncells_of (off := 0) (fun q _ => by
    have h2 := cells_at (show w.heap[b]? = some (.cells (rdCells k s lo hi n v).toArray 36 (0, 0)) from h) q
    rw [Nat.zero_add, h2]; simp) rfl
theorem NCells.lt {w : World} {b : Nat} {k : Int} {s : BitVec 256} {lo hi n : Int} {v : Value} (h : NCells w b k s lo hi n v) : b < w.heap.size := World.block_lt_of_cell? w _ h.c0
theorem NCells.bar {w w' : World} {R b : Nat} {k : Int} {s : BitVec 256} {lo hi n : Int} {v : Value} (h : NCells w b k s lo hi n v) (hb : Bar R w w') (hR : b ≠ R) : NCells w' b k s lo hi n v := by
  have e : ∀ q, w'.cell? ⟨b, q, none⟩ = w.cell? ⟨b, q, none⟩ := fun q => hb.cell (p := ⟨b, q, none⟩) h.lt hR
  exact ⟨by rw [e, h.c0], fun c hc => by rw [e]; exact h.set c hc, by rw [e, h.c257], by rw [e, h.c258], by rw [e, h.c259], by rw [e, h.c260]⟩
/-- what formed hands back -/
def FPost (w : World) (R : Nat) (r : Option Nat) (e : Ending) (w' : World) : Prop :=
  match r with
  | some n => e = .returned (.bool true) ∧ RInt w' R n ∧ Bar R w w'
  | none => e = .returned (.bool false) ∧ Bar R w w'
/-- a node that does not hang on block R -/
abbrev RefOff (R : Nat) (w : World) (x : Nd) (cs : List Value) : Prop := RefIn (fun k => decide (k ≠ R)) w x cs
theorem RefIn.bar {R : Nat} {w w' : World} {x : Nd} {cs : List Value} (h : RefOff R w x cs) (hb : Bar R w w') : RefOff R w' x cs :=
  h.mono hb.size fun k hk hlt => ⟨hk, hb.block k hlt (by simpa using hk)⟩
theorem ref_kind {w : World} {x : Nd} {cs : List Value} (h : Nd.ref w x cs) : cs[0]? = some (.int .i64 x.kind) := by
  cases x with
  | mk k s lo hi n l =>
    rw [ref_mk] at h
    obtain ⟨_, _, _, _, _, _, rfl, _⟩ := h
    rfl
/-- the nodes of a list, each with its cells -/
theorem refOff_get {R : Nat} {w : World} {l : List Nd} {a : Option Addr} {cap : Nat} (h : l.length = 0 ∨ ∃ b off, a = some ⟨b, off, none⟩ ∧ l.length ≤ cap ∧ b < (veil (fun k => decide (k ≠ R)) w).heap.size ∧ nodesRef (veil (fun k => decide (k ≠ R)) w) l b off) {w' : World} (hb : Bar R w w') {j : Nat} (hj : j < l.length) :
    ∃ b off cs, a = some ⟨b, off, none⟩ ∧ l.length ≤ cap ∧ Ref261 w' b (off + j * 261) cs ∧ w'.cell? ⟨b, off + j * 261, none⟩ = some (.int .i64 l[j].kind) ∧ RefOff R w' l[j] cs := by
  rcases h with h | ⟨b, off, rfl, hc, _, hn⟩
  · omega
  · obtain ⟨cs, h1, h2, h3⟩ := nodesRef_get _ b l off hn j hj
    have hcell : ∀ q, q < 261 → w'.cell? ⟨b, off + j * 261 + q, none⟩ = cs[q]? := fun q hq => by
      have h4 := h2 q hq
      rw [List.getElem?_eq_getElem (by omega)] at h4 ⊢
      obtain ⟨h5, h6⟩ := veil_cell h4
      rw [hb.cell (p := ⟨b, off + j * 261 + q, none⟩) (World.block_lt_of_cell? w _ h6) (by simpa using h5)]
      exact h6
    exact ⟨b, off, cs, rfl, hc, ⟨h1, hcell⟩, by have h4 := hcell 0 (by decide); rw [ref_kind h3] at h4; exact h4, RefIn.bar h3 hb⟩
theorem forms_step {k : Int} {l : List Nd} {nx0 nx j : Nat} (h : forms k l nx0 = forms k (l.drop j) nx) (hj : j < l.length) : forms k l nx0 = if within k l[j].kind then (l[j].form nx).bind (forms k (l.drop (j + 1))) else none := by
  rw [h, List.drop_eq_getElem_cons hj, forms_cons]
end Go.Proofs.Ytaanhijjhllckaa
