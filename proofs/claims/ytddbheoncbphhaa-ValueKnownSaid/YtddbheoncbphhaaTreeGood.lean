/- tree.Good, walked. -/
import Derived.Test.YtddbheoncbphhaaTreeFold
import Derived.Test.YtddbheoncbphhaaTreeNodes
import Derived.Test.YtddbheoncbphhaaTreeDeep
namespace Go.Proofs.Ytddbheoncbphhaa
set_option maxRecDepth 100000
open Go.RowKit Go.Shelf

attribute [local go_sem] Oper.semAt_some

theorem Var.below {B : Nat} {W W' : World} {b : Nat} {v : Value} {t : TypeId} (h : Var W b v t) (hb : Below B W W') (hlt : b < B) : Var W' b v t := (hb.block b hlt).trans h
theorem block_below {B : Nat} {W W' : World} {b : Nat} {o : Obj} (h : W.heap[b]? = some o) (hb : Below B W W') (hlt : b < B) : W'.heap[b]? = some o := (hb.block b hlt).trans h
theorem keepsFrom_below {B : Nat} {W W' : World} (h : Below W.heap.size W W') : KeepsFrom B W W' := ⟨h.size, fun k _ _ hk _ => (h.block k (Array.getElem?_eq_some_iff.1 hk).1).trans hk⟩
/-- what stays through a round of Good: the answer, the pattern, the number, and the two blocks of the round -/
def RoundF (n₀ : Nat) (w0 : World) (bR bP g bo bx : Nat) (P o X : Obj) (v : Value) (W : World) : Prop :=
  Var W bR (.bool false) 4 ∧ W.heap[bP]? = some P ∧ Var W g v 3 ∧ W.heap[bo]? = some o ∧ W.heap[bx]? = some X ∧ Below n₀ w0 W
theorem block_lt {W : World} {b : Nat} {o : Obj} (h : W.heap[b]? = some o) : b < W.heap.size := (Array.getElem?_eq_some_iff.1 h).1
theorem RoundF.still {n₀ : Nat} {w0 : World} {bR bP g bo bx : Nat} {P o X : Obj} {v : Value} {W W' : World} (h : RoundF n₀ w0 bR bP g bo bx P o X v W) (hn : n₀ ≤ W.heap.size) (hb : Below W.heap.size W W') : RoundF n₀ w0 bR bP g bo bx P o X v W' :=
  ⟨h.1.below hb h.1.lt, block_below h.2.1 hb (block_lt h.2.1), h.2.2.1.below hb h.2.2.1.lt, block_below h.2.2.2.1 hb (block_lt h.2.2.2.1), block_below h.2.2.2.2.1 hb (block_lt h.2.2.2.2.1), h.2.2.2.2.2.trans (hb.mono hn)⟩
def GoodI (w w0 : World) (g : Nat) (P : Obj) (pre : List (NV w)) (W : World) : Prop :=
  Var W (w.heap.size + 1) (.bool false) 4 ∧ W.heap[w.heap.size]? = some P ∧ (∃ nx : Nat, nx ≤ pre.length ∧ foldN (nds pre) 1 = some (nx + 1) ∧ Var W g (.int .i64 (nx : Int)) 3) ∧ Below w.heap.size w0 W
def GoodX (w w0 : World) (c : Code) (pre : List (NV w)) (W : World) : Prop :=
  c = .ret ∧ foldN (nds pre) 1 = none ∧ Var W (w.heap.size + 1) (.bool false) 4 ∧ Below w.heap.size w0 W
theorem GoodI.own {w w0 : World} {g : Nat} {P : Obj} (hP : P.isCells = true) (hw : w.heap.size ≤ w0.heap.size) : OwnFrom w0.heap.size (GoodI w w0 g P) := by
  rintro q A B row ⟨h1, h2, ⟨nx, h3, h4, h5⟩, h6⟩ hg hr
  exact ⟨Var.own _ _ _ _ () A B row h1 hg hr, ownFrom_block _ _ _ hP () A B row h2 hg hr, ⟨nx, h3, h4, Var.own _ _ _ _ () A B row h5 hg hr⟩, ownFrom_below (β := Unit) hw hw () A B row h6 hg hr⟩
theorem GoodX.own {w w0 : World} (hw : w.heap.size ≤ w0.heap.size) (c : Code) : OwnFrom w0.heap.size (GoodX w w0 c) := by
  rintro q A B row ⟨h1, h2, h3, h4⟩ hg hr
  exact ⟨h1, h2, Var.own _ _ _ _ () A B row h3 hg hr, ownFrom_below (β := Unit) hw hw () A B row h4 hg hr⟩
theorem RoundF.own {n₀ B : Nat} {w0 : World} {bR bP g bo bx : Nat} {P o X : Obj} {v : Value} (hP : P.isCells = true) (ho : o.isCells = true) (hX : X.isCells = true) (hn : n₀ ≤ w0.heap.size) (hB : n₀ ≤ B) : OwnFrom B (fun (_ : Unit) W => RoundF n₀ w0 bR bP g bo bx P o X v W) := by
  rintro q A B row ⟨h1, h2, h3, h4, h5, h6⟩ hg hr
  exact ⟨Var.own _ _ _ _ () A B row h1 hg hr, ownFrom_block _ _ _ hP () A B row h2 hg hr, Var.own _ _ _ _ () A B row h3 hg hr, ownFrom_block _ _ _ ho () A B row h4 hg hr, ownFrom_block _ _ _ hX () A B row h5 hg hr, ownFrom_below (β := Unit) hn hB () A B row h6 hg hr⟩
theorem RoundF.start {n₀ : Nat} {w0 : World} {bR bP g : Nat} {P : Obj} {v : Value} {W : World} (h1 : Var W bR (.bool false) 4) (h2 : W.heap[bP]? = some P) (h3 : Var W g v 3) (hb : Below n₀ w0 W) (hn : n₀ ≤ W.heap.size) (o X : Obj) :
    RoundF n₀ w0 bR bP g W.heap.size (W.heap.size + 1) P o X v ((W.alloc o).alloc X) := by
  have hb1 : Below W.heap.size W (W.alloc o) := (Below.refl _ _).alloc (Nat.le_refl _) _
  have hb2 : Below W.heap.size W ((W.alloc o).alloc X) := hb1.alloc (by simp) _
  refine ⟨h1.below hb2 h1.lt, block_below h2 hb2 (block_lt h2), h3.below hb2 h3.lt, (Below.heap_alloc _ _ _ (by simp)).trans (World.alloc_heap_new W o), ?_, hb.trans (hb2.mono hn)⟩
  have h := World.alloc_heap_new (W.alloc o) X
  rw [World.size_alloc] at h; exact h
/-- a round of Good leaves with 'no' -/
theorem stop_post {w w0 W3 W5 : World} {bP g bo bx B : Nat} {P o X : Obj} {v : Value} {pre : List (NV w)} (h5 : RoundF w.heap.size w0 (w.heap.size + 1) bP g bo bx P o X v W5) (hk : KeepsFrom B W3 W5) (hnone : foldN (nds pre) 1 = none) (hne : bo ≠ w.heap.size + 1) :
    (KeepsFrom B W3 (W5.setCell ⟨w.heap.size + 1, 0, none⟩ (.bool false)) ∧ (W5.setCell ⟨w.heap.size + 1, 0, none⟩ (.bool false)).heap[bo]? = some o) ∧ GoodX w w0 .ret pre (W5.setCell ⟨w.heap.size + 1, 0, none⟩ (.bool false)) :=
  ⟨⟨hk.trans ((KeepsOthers.setCell _ _ _).from _), (Below.heap_setCell _ _ _ _ hne).trans h5.2.2.2.1⟩, rfl, hnone, h5.1.set _, h5.2.2.2.2.2.setCell (p := ⟨w.heap.size + 1, 0, none⟩) (Nat.le_succ _) _⟩
/-- a round of Good goes on -/
theorem next_post {w w0 W3 W5 : World} {g bo bx B : Nat} {P o X : Obj} {nx : Nat} {pre : List (NV w)} (h5 : RoundF w.heap.size w0 (w.heap.size + 1) w.heap.size g bo bx P o X (.int .i64 (nx : Int)) W5) (hk : KeepsFrom B W3 W5) (hle : nx ≤ pre.length) (hf : foldN (nds pre) 1 = some (nx + 1)) :
    (KeepsFrom B W3 W5 ∧ W5.heap[bo]? = some o) ∧ GoodI w w0 g P pre W5 :=
  ⟨⟨hk, h5.2.2.2.1⟩, h5.1, h5.2.1, ⟨nx, hle, hf, h5.2.2.1⟩, h5.2.2.2.2.2⟩
/-- the number goes up -/
theorem RoundF.up {n₀ : Nat} {w0 : World} {bR bP g bo bx : Nat} {P o X : Obj} {v : Value} {W : World} (h : RoundF n₀ w0 bR bP g bo bx P o X v W) (h1 : bR ≠ g) (h2 : bP ≠ g) (h3 : bo ≠ g) (h4 : bx ≠ g) (hn : n₀ ≤ g) (u : Value) :
    RoundF n₀ w0 bR bP g bo bx P o X u (W.setCell ⟨g, 0, none⟩ u) :=
  ⟨(Below.heap_setCell _ _ _ _ h1).trans h.1, (Below.heap_setCell _ _ _ _ h2).trans h.2.1, h.2.2.1.set u, (Below.heap_setCell _ _ _ _ h3).trans h.2.2.2.1, (Below.heap_setCell _ _ _ _ h4).trans h.2.2.2.2.1, h.2.2.2.2.2.setCell (p := ⟨g, 0, none⟩) hn _⟩
theorem foldN_snoc {l : List Nd} {next nx : Nat} (h : foldN l next = some nx) (x : Nd) : foldN (l ++ [x]) next = stepN nx x := by
  rw [foldN_append, h]
  show (stepN nx x).bind (foldN []) = _
  cases stepN nx x <;> rfl
theorem cells_at {W : World} {b : Nat} {vs : Array Value} {t : TypeId} (h : W.heap[b]? = some (.cells vs t)) (q : Nat) : W.cell? ⟨b, q, none⟩ = vs[q]? := by simp [World.cell?, h]
/-- the cells of a pattern -/
def patCells (st en : Bool) (cs : List Value) (gr : Int) : List Value := .bool st :: .bool en :: (cs ++ [.int .i64 gr])
theorem good_deep {x : Nd} {gr : Int} (h : 2000 < sizeOfN x ∨ 64 < depthOfN x) : goodP x gr = false := by
  unfold sizeOfN depthOfN at h
  unfold goodP
  by_cases h1 : x.count ≤ 2000
  · rw [decide_eq_false (show ¬ x.deep ≤ 64 from by omega), Bool.and_false, Bool.false_and]
  · rw [decide_eq_false h1, Bool.false_and, Bool.false_and]
theorem good_fold {x : Nd} {gr : Int} (h1 : ¬ 2000 < sizeOfN x) (h2 : ¬ 64 < depthOfN x) : goodP x gr = (match foldN x.pre 1 with | some m => gr == (m : Int) - 1 && decide (gr ≤ 32) | none => false) ∧ x.pre.take 100000 = x.pre := by
  unfold sizeOfN at h1
  unfold depthOfN at h2
  refine ⟨?_, List.take_of_length_le (by rw [Nd.pre_length]; omega)⟩
  unfold goodP
  rw [decide_eq_true (show x.count ≤ 2000 from by omega), decide_eq_true (show x.deep ≤ 64 from by omega), fold_pre]
  rfl
end Go.Proofs.Ytddbheoncbphhaa
