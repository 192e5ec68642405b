/- core.blank, core.formed, core.Good, walked. -/
import Derived.Test.YtblgjcolmaidlaaCoreParts
import Derived.Test.YtblgjcolmaidlaaTreeOps
namespace Go.Proofs.Ytblgjcolmaidlaa
namespace K
set_option maxRecDepth 100000
open Go.RowKit Go.Shelf

attribute [local go_sem] Oper.semAt_some

def blankC (k : Int) (s : BitVec 256) (n : Int) : Bool := (k == 2 || decide (s = 0)) && (k == 6 || n == 0)
def formedC (k n : Int) (len : Nat) : Bool := if k = 0 ∨ k = 1 ∨ k = 2 then decide (len = 0) else if k = 3 ∨ k = 4 then decide (len = 2) else if k = 5 ∨ k = 7 then decide (len = 1) else if k = 6 then decide (len = 1) && decide (1 ≤ n) && decide (n ≤ 32) else false
theorem partOk_eq (k : Int) (s : BitVec 256) (n : Int) (len : Nat) : partOk k s n len = (blankC k s n && formedC k n len) := rfl
/-! Good, over the parts in their order -/
mutual
theorem form_pre : ∀ x : Cr, x.form = x.pre.all Cr.ok
  | .mk k s n l => by rw [form_mk, pre_mk, List.all_cons, forms_pres l]; rfl
theorem forms_pres : ∀ l : List Cr, forms l = (pres l).all Cr.ok
  | [] => by rw [forms_nil, pres_nil]; rfl
  | x :: l => by rw [forms_cons, pres_cons, List.all_append, form_pre x, forms_pres l]
end
theorem good_stop {x : Cr} {l : List Cr} (hp : l <+: x.pre.take 100000) (h : 2000 < l.length ∨ l.all Cr.ok = false) : goodC x = false := by
  have hp2 : l <+: x.pre := hp.trans (List.take_prefix _ _)
  unfold goodC
  rcases h with h | h
  · have := hp2.length_le
    rw [Cr.pre_length] at this
    rw [decide_eq_false (by omega), Bool.false_and]
  · obtain ⟨m, hm⟩ := hp2
    rw [form_pre, ← hm, List.all_append, h, Bool.false_and, Bool.and_false]
theorem good_done {x : Cr} {l : List Cr} (hp : l = x.pre.take 100000) (h1 : l.length ≤ 2000) (h2 : l.all Cr.ok = true) : goodC x = true := by
  have hl := congrArg List.length hp
  rw [List.length_take, Cr.pre_length] at hl
  have hc : x.count ≤ 2000 := by omega
  rw [List.take_of_length_le (by rw [Cr.pre_length]; omega)] at hp
  unfold goodC
  rw [form_pre, ← hp, h2, decide_eq_true hc]; rfl
def GoodI (w w0 : World) (pre : List (NV w)) (W : World) : Prop :=
  Var W (w.heap.size + 1) (.bool false) 4 ∧ Var W (w.heap.size + 2) (.int .i64 (pre.length : Int)) 3 ∧ pre.length ≤ 2000 ∧ (nds pre).all Cr.ok = true ∧ Below w.heap.size w0 W
def GoodX (w w0 : World) (c : Code) (pre : List (NV w)) (W : World) : Prop :=
  c = .ret ∧ (2000 < (nds pre).length ∨ (nds pre).all Cr.ok = false) ∧ Var W (w.heap.size + 1) (.bool false) 4 ∧ Below w.heap.size w0 W
theorem GoodI.own {w w0 : World} (hw : w.heap.size ≤ w0.heap.size) : OwnFrom w0.heap.size (GoodI w w0) := by
  rintro q A B row ⟨h1, h2, h3, h4, h6⟩ hg hr
  exact ⟨Var.own _ _ _ _ () A B row h1 hg hr, Var.own _ _ _ _ () A B row h2 hg hr, h3, h4, ownFrom_below (β := Unit) hw hw () A B row h6 hg hr⟩
theorem GoodX.own {w w0 : World} (hw : w.heap.size ≤ w0.heap.size) (c : Code) : OwnFrom w0.heap.size (GoodX w w0 c) := by
  rintro q A B row ⟨h1, h2, h3, h4⟩ hg hr
  exact ⟨h1, h2, Var.own _ _ _ _ () A B row h3 hg hr, ownFrom_below (β := Unit) hw hw () A B row h4 hg hr⟩
/-- what stays through a round -/
def RoundG (w w0 : World) (bo bx : Nat) (o X : Obj) (v : Value) (W : World) : Prop :=
  Var W (w.heap.size + 1) (.bool false) 4 ∧ Var W (w.heap.size + 2) v 3 ∧ W.heap[bo]? = some o ∧ W.heap[bx]? = some X ∧ Below w.heap.size w0 W
theorem RoundG.still {w w0 : World} {bo bx : Nat} {o X : Obj} {v : Value} {W W' : World} (h : RoundG w w0 bo bx o X v W) (hn : w.heap.size ≤ W.heap.size) (hb : Below W.heap.size W W') : RoundG w w0 bo bx o X v W' :=
  ⟨h.1.below hb h.1.lt, h.2.1.below hb h.2.1.lt, block_below h.2.2.1 hb (block_lt h.2.2.1), block_below h.2.2.2.1 hb (block_lt h.2.2.2.1), h.2.2.2.2.trans (hb.mono hn)⟩
theorem RoundG.own {B : Nat} {w w0 : World} {bo bx : Nat} {o X : Obj} {v : Value} (ho : o.isCells = true) (hX : X.isCells = true) (hn : w.heap.size ≤ w0.heap.size) (hB : w.heap.size ≤ B) : OwnFrom B (fun (_ : Unit) W => RoundG w w0 bo bx o X v W) := by
  rintro q A B row ⟨h1, h2, h4, h5, h6⟩ hg hr
  exact ⟨Var.own _ _ _ _ () A B row h1 hg hr, Var.own _ _ _ _ () A B row h2 hg hr, ownFrom_block _ _ _ ho () A B row h4 hg hr, ownFrom_block _ _ _ hX () A B row h5 hg hr, ownFrom_below (β := Unit) hn hB () A B row h6 hg hr⟩
theorem RoundG.start {w w0 : World} {v : Value} {W : World} (h1 : Var W (w.heap.size + 1) (.bool false) 4) (h3 : Var W (w.heap.size + 2) v 3) (hb : Below w.heap.size w0 W) (hn : w.heap.size ≤ W.heap.size) (o X : Obj) :
    RoundG w w0 W.heap.size (W.heap.size + 1) o X v ((W.alloc o).alloc X) := by
  have hb1 : Below W.heap.size W (W.alloc o) := (Below.refl _ _).alloc (Nat.le_refl _) _
  have hb2 : Below W.heap.size W ((W.alloc o).alloc X) := hb1.alloc (by simp) _
  refine ⟨h1.below hb2 h1.lt, h3.below hb2 h3.lt, (Below.heap_alloc _ _ _ (by simp)).trans (World.alloc_heap_new W o), ?_, hb.trans (hb2.mono hn)⟩
  have h := World.alloc_heap_new (W.alloc o) X
  rw [World.size_alloc] at h; exact h
theorem RoundG.up {w w0 : World} {bo bx : Nat} {o X : Obj} {v : Value} {W : World} (h : RoundG w w0 bo bx o X v W) (h3 : bo ≠ w.heap.size + 2) (h4 : bx ≠ w.heap.size + 2) (u : Value) :
    RoundG w w0 bo bx o X u (W.setCell ⟨w.heap.size + 2, 0, none⟩ u) :=
  ⟨(Below.heap_setCell _ _ _ _ (show w.heap.size + 1 ≠ w.heap.size + 2 by omega)).trans h.1, h.2.1.set u, (Below.heap_setCell _ _ _ _ h3).trans h.2.2.1, (Below.heap_setCell _ _ _ _ h4).trans h.2.2.2.1, h.2.2.2.2.setCell (p := ⟨w.heap.size + 2, 0, none⟩) (Nat.le_add_right _ _) _⟩
/-- a round leaves with 'no' -/
theorem stopG {w w0 W3 W5 : World} {bo bx B : Nat} {o X : Obj} {v : Value} {pre : List (NV w)} (h5 : RoundG w w0 bo bx o X v W5) (hk : KeepsFrom B W3 W5) (hnone : 2000 < (nds pre).length ∨ (nds pre).all Cr.ok = false) (hne : bo ≠ w.heap.size + 1) :
    (KeepsFrom B W3 (W5.setCell ⟨w.heap.size + 1, 0, none⟩ (.bool false)) ∧ (W5.setCell ⟨w.heap.size + 1, 0, none⟩ (.bool false)).heap[bo]? = some o) ∧ GoodX w w0 .ret pre (W5.setCell ⟨w.heap.size + 1, 0, none⟩ (.bool false)) :=
  ⟨⟨hk.trans ((KeepsOthers.setCell _ _ _).from _), (Below.heap_setCell _ _ _ _ hne).trans h5.2.2.1⟩, rfl, hnone, h5.1.set _, h5.2.2.2.2.setCell (p := ⟨w.heap.size + 1, 0, none⟩) (Nat.le_succ _) _⟩
theorem nextG {w w0 W3 W5 : World} {bo bx B : Nat} {o X : Obj} {pre : List (NV w)} (h5 : RoundG w w0 bo bx o X (.int .i64 (pre.length : Int)) W5) (hk : KeepsFrom B W3 W5) (hle : pre.length ≤ 2000) (hf : (nds pre).all Cr.ok = true) :
    (KeepsFrom B W3 W5 ∧ W5.heap[bo]? = some o) ∧ GoodI w w0 pre W5 :=
  ⟨⟨hk, h5.2.2.1⟩, h5.1, h5.2.1, hle, hf, h5.2.2.2.2⟩
end K
end Go.Proofs.Ytblgjcolmaidlaa
