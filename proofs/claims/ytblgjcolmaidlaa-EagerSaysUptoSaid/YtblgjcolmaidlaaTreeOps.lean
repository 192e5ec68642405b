/- TreeKinds, TreeForm, TreeFormed, Held, TreeVisit, TreeFold, TreeNodes, TreeDeep, TreeGood, as one. -/
import Derived.Test.YtblgjcolmaidlaaTreeHeavy
import Derived.Test.YtblgjcolmaidlaaEq
import Derived.RangeFuncNested
import Derived.RangeFuncBound
import Derived.RangeFuncCalls
import Derived.RangeFuncLeaves
import Derived.Shelf.Abstract
import Derived.Shelf.RegionOpen
import Derived.WalkKit
import Derived.OwnWalkIn
import Derived.TacticsInMore
import Derived.LoopNIn
import Derived.LoopIn
import Derived.Test.YtblgjcolmaidlaaRows
namespace Go.Proofs.Ytblgjcolmaidlaa
set_option maxRecDepth 100000
open Go.RowKit
/-- the cells of a node -/
theorem at_cells {w : World} {x : Nd} {cs : List Value} (hat : Nd.at w x cs) : ∃ (s : BitVec 256) (lo hi n : Int) (a : Option Addr) (cap : Nat), x = .mk x.kind s lo hi n x.nodes ∧
    cs = [.int .i64 x.kind, .int .u64 (word s 0), .int .u64 (word s 1), .int .u64 (word s 2), .int .u64 (word s 3), .int .i64 lo, .int .i64 hi, .int .i64 n, .slice a x.nodes.length cap] := by
  cases x with
  | mk k s lo hi n l =>
    rw [at_mk] at hat
    obtain ⟨_, _, _, _, a, cap, hcs, _, _⟩ := hat
    exact ⟨s, lo, hi, n, a, cap, rfl, hcs⟩
def atomK (k : Int) : Bool := k == 1 || k == 5 || k == 6
def pieceK (k : Int) : Bool := atomK k || k == 4
def branchK (k : Int) : Bool := pieceK k || k == 2
/-- behind a call that leaves a block of its own as it was -/
theorem box_below {w w2 : World} {o : Obj} (hb : Below (w.alloc o).heap.size (w.alloc o) w2) : Below w.heap.size w w2 :=
  ((Below.refl _ _).alloc (Nat.le_refl _) _).trans (hb.mono (by simp))
theorem box_cell {w w2 : World} {o : Obj} (hb : Below (w.alloc o).heap.size (w.alloc o) w2) (q : Nat) : w2.cell? ⟨w.heap.size, q, none⟩ = (w.alloc o).cell? ⟨w.heap.size, q, none⟩ :=
  hb.cell (p := ⟨w.heap.size, q, none⟩) (by simp)
def boundedN (lo hi : Int) : Bool := decide (0 ≤ lo) && decide (lo ≤ 255) && (hi == -1 || decide (lo ≤ hi) && decide (hi ≤ 255))
end Go.Proofs.Ytblgjcolmaidlaa
namespace Go.Proofs.Ytblgjcolmaidlaa
set_option maxRecDepth 100000
open Go.RowKit
/-- the fields that are not of the kind -/
def blankN (k : Int) (s : BitVec 256) (lo hi n : Int) : Bool := (k == 1 || decide (s = 0)) && (k == 4 || lo == 0 && hi == 0) && (k == 5 || n == 0)
theorem elems_zero_iff (s : BitVec 256) : ((elems s).length : Int) = 0 ↔ s = 0 := by
  constructor
  · intro h
    have h2 : elems s = [] := List.length_eq_zero_iff.mp (by omega)
    apply BitVec.eq_of_getLsbD_eq
    intro c hc
    rw [elems_nil h2 c hc]; simp
  · rintro rfl
    decide +kernel
end Go.Proofs.Ytblgjcolmaidlaa
namespace Go.Proofs.Ytblgjcolmaidlaa
set_option maxRecDepth 100000
open Go.RowKit
/-- the fields that are of the kind, and which nodes are in it -/
def formedN (k : Int) (s : BitVec 256) (lo hi : Int) (l : List Nd) : Bool :=
  if k = 1 then !decide (s = 0) && decide (l.length = 0)
  else if k = 2 then decide (2 ≤ l.length) && l.all (fun y => pieceK y.kind)
  else if k = 3 then decide (2 ≤ l.length) && l.all (fun y => branchK y.kind)
  else if k = 4 then boundedN lo hi && decide (l.length = 1) && l.all (fun y => atomK y.kind)
  else if k = 5 ∨ k = 6 then decide (l.length = 1)
  else false
end Go.Proofs.Ytblgjcolmaidlaa
namespace Go.Proofs.Ytblgjcolmaidlaa
set_option maxRecDepth 100000
open Go.RowKit

/-- new blocks, and what lies in them: nothing that lay has turned -/
theorem abides_still {β : Type} {B : Nat} {J : β → World → Prop} (h : AbidesFrom B J) {s : β} {W W' : World} (hs : J s W) (hb : Below W.heap.size W W') : J s W' :=
  h s W W' none hs ⟨hb.os, hb.tape, hb.output, hb.size, fun k hk _ => hb.block k hk⟩ (fun r e => by cases e)
/-- what an iterator does, of whatever rounds that leave the memory below n₀ as it was in w0, and the block that the iterator has laid last -/
def SeqHeld {α : Type} (P : Program) (g : Nat) (lb : Array Value) (enc : α → Value) (n₀ : Nat) (w0 : World) (S Sp : List α → Prop) (N : Nat) : Prop :=
  ∀ (l : Nat) (J Jx : List α → World → Prop) (W : World), Below n₀ w0 W → Below w0.heap.size w0 W → AbidesFrom W.heap.size J → AbidesFrom W.heap.size Jx →
    (∀ pre W', J pre W' → Below n₀ w0 W') → (∀ pre W', Jx pre W' → Below n₀ w0 W') →
    (∀ m pre x W1 o, J pre W1 → o.isCells = true → pre.length < N → YieldAt Fence.wide m P l #[enc x] (W1.alloc o) fun e W' =>
      ((e = .returned (.bool true) ∧ J (pre ++ [x]) W') ∨ (e = .returned (.bool false) ∧ Jx (pre ++ [x]) W')) ∧ W'.heap[W1.heap.size]? = some o) →
    J [] W →
    ∀ m, CallsIn Fence.wide m P g (#[.func (.yield l) #[] #[]] ++ lb) W fun e W' => (∃ v, e = .returned v) ∧ ((∃ xs, S xs ∧ J xs W') ∨ (∃ pre, Sp pre ∧ Jx pre W'))

/-- how a round may be left -/
def heldPost {α : Type} (B b : Nat) (o : Obj) (I : List α → World → Prop) (Ix : Code → List α → World → Prop) (xs : List α) (W : World) : Exit → Act → World → Prop
  | .normal, _, W' => (KeepsFrom B W W' ∧ W'.heap[b]? = some o) ∧ I xs W'
  | .ret, _, W' => (KeepsFrom B W W' ∧ W'.heap[b]? = some o) ∧ Ix .ret xs W'
  | .exit id, _, W' => (KeepsFrom B W W' ∧ W'.heap[b]? = some o) ∧ Ix (.exit id) xs W'
  | .goto t, _, W' => (KeepsFrom B W W' ∧ W'.heap[b]? = some o) ∧ Ix (.goto t) xs W'
  | .panic _, _, _ => False
  | .outgrown, _, _ => False

theorem wp_range_held {α : Type} {n : Nat} {P : Program} {g : Operand} {p : Tmp} {assign body : Code} {Q : Exit → Act → World → Prop} {a : Act} {w : World}
    {gf : Nat} {lb : Array Value} (hg : a.eval g = .func (.func gf) #[] lb) (eg : ∀ args w, (callFunc gf args).run P w = .ok (.enter gf args) w)
    {enc : α → Value} {n₀ : Nat} {w0 : World} {S Sp : List α → Prop} {N : Nat} (hseq : SeqHeld P gf lb enc n₀ w0 S Sp N) (hn : n₀ ≤ w0.heap.size) (hb0 : Below w0.heap.size w0 w)
    (I : List α → World → Prop) (Ix : Code → List α → World → Prop) (hI : OwnFrom w.heap.size I) (hIx : ∀ c, OwnFrom w.heap.size (Ix c))
    (hIb : ∀ pre W, I pre W → Below n₀ w0 W) (hIxb : ∀ c pre W, Ix c pre W → Below n₀ w0 W) (h0 : I [] w)
    (hturn : ∀ (l m : Nat) (pre : List α) (x : α) (W : World) (o : Obj) (K : Act → World → Prop), I pre W → o.isCells = true → pre.length < N → w.heap.size < W.heap.size →
      (∀ a' W', KeepsFrom w.heap.size (W.alloc o) W' →
        (∀ W3, (∀ Pr : World → Prop, OwnFrom w.heap.size (fun (_ : Unit) V => Pr V) → Pr W' → Pr W3) → W3.heap.size = W'.heap.size → body.wpIn (Fence.wide.inRound l) m P (heldPost w.heap.size W.heap.size o I Ix (pre ++ [x]) W3) a' W3) → K a' W') →
      assign.wpIn (Fence.wide.inRound l) m P (Exit.then K (fun _ _ _ => False)) { tmps := a.tmps.setIfInBounds p (enc x), defers := [] } (W.alloc o))
    (hdone : ∀ (D : Nat) (xs : List α) (W : World), w.heap.size ≤ D → S xs → I xs W → W.heap[D]? = some (.deferred (some [])) → Q .normal { a with defers := { target := .collected D, args := #[] } :: a.defers } W)
    (hstop : ∀ (D : Nat) (c : Code) (pre : List α) (W : World), w.heap.size ≤ D → Sp pre → Ix c pre W → W.heap[D]? = some (.deferred (some [])) → c.wpIn Fence.wide n P Q { a with defers := { target := .collected D, args := #[] } :: a.defers } W) :
    (Code.rangeFunc g #[p] assign body).wpIn Fence.wide n P Q a w := by
  refine wpIn_rangeFunc fun fn hfn => ?_
  generalize hB : w.heap.size = B at *
  -- the record of the loop, in each of its states
  let rec' : LoopState → Option Code → Obj := fun st pe => .loop { state := st, pending := pe, fn, tmps := a.tmps, params := #[p], assign, body, defers := B }
  have hsz2 : ((w.alloc (.deferred (some []))).alloc (rec' .ready none)).heap.size = B + 2 := by simp [hB]
  have hrec1 : ((w.alloc (.deferred (some []))).alloc (rec' .ready none)).heap[B + 1]? = some (rec' .ready none) := by
    have h := World.alloc_heap_new (w.alloc (.deferred (some []))) (rec' .ready none)
    rw [World.size_alloc, hB] at h; exact h
  have hdef1 : ((w.alloc (.deferred (some []))).alloc (rec' .ready none)).heap[B]? = some (.deferred (some [])) := by
    have h := World.alloc_heap_new w (.deferred (some []))
    rw [hB] at h
    exact (Below.heap_alloc _ _ _ (by simp; omega)).trans h
  have hnew : Below w0.heap.size w0 ((w.alloc (.deferred (some []))).alloc (rec' .ready none)) :=
    (hb0.alloc hb0.size _).alloc (by have := hb0.size; simp; omega) _
  have hstart : I [] ((w.alloc (.deferred (some []))).alloc (rec' .ready none)) := hI.alloc _ (hI.alloc _ h0)
  have henter := run_enterLoop_outer (P := P) (w := w) fn a.tmps #[p] assign body
  rw [hB] at henter
  -- the invariants that the iterator is given: the caller's own, the two blocks beside
  let J : List α → World → Prop := fun pre W => I pre W ∧ W.heap[B + 1]? = some (rec' .ready none) ∧ W.heap[B]? = some (.deferred (some []))
  let Jx : List α → World → Prop := fun pre W => ∃ c, Ix c pre W ∧ W.heap[B + 1]? = some (rec' .done (some c)) ∧ W.heap[B]? = some (.deferred (some []))
  -- a walk's block lies beyond B and holds no cells
  have hwalk : ∀ {A : World} {row : Option Nat}, (∀ r, row = some r → B + 2 ≤ r ∧ ∃ o : Obj, A.heap[r]? = some o ∧ o.isWalk = true) → ∀ r, row = some r → B ≤ r ∧ ∃ o : Obj, A.heap[r]? = some o ∧ o.isCells = false := by
    intro A row h r e
    obtain ⟨h1, o, h2, h3⟩ := h r e
    exact ⟨by omega, o, h2, Obj.not_cells_of_walk h3⟩
  have hJ : AbidesFrom (B + 2) J := fun s A A' row ⟨h1, h2, h3⟩ hg hr =>
    ⟨hI s A A' row h1 hg (hwalk hr), (grownBy_keeps hg (fun r e => (hr r e).2) h2 rfl).trans h2, (grownBy_keeps hg (fun r e => (hr r e).2) h3 rfl).trans h3⟩
  have hJx : AbidesFrom (B + 2) Jx := fun s A A' row ⟨c, h1, h2, h3⟩ hg hr =>
    ⟨c, hIx c s A A' row h1 hg (hwalk hr), (grownBy_keeps hg (fun r e => (hr r e).2) h2 rfl).trans h2, (grownBy_keeps hg (fun r e => (hr r e).2) h3 rfl).trans h3⟩
  -- one round
  have hround : ∀ m pre x W1 o, J pre W1 → o.isCells = true → pre.length < N → YieldAt Fence.wide m P (B + 1) #[enc x] (W1.alloc o) fun e W' =>
      ((e = .returned (.bool true) ∧ J (pre ++ [x]) W') ∨ (e = .returned (.bool false) ∧ Jx (pre ++ [x]) W')) ∧ W'.heap[W1.heap.size]? = some o := by
    rintro m pre x W1 o ⟨hi, hl, hk⟩ hcells hlen
    have hBW : B + 1 < W1.heap.size := (Array.getElem?_eq_some_iff.1 hl).1
    have hl1 : (W1.alloc o).heap[B + 1]? = some (rec' .ready none) := (Below.heap_alloc W1 o _ hBW).trans hl
    have hk1 : (W1.alloc o).heap[B]? = some (.deferred (some [])) := (Below.heap_alloc W1 o _ (by omega)).trans hk
    refine ⟨fn, _, assign, body, run_yield (args := #[enc x]) hl1 rfl, roundIn_of_wpIn hfn ?_⟩
    have htm : ((#[p] : Array Tmp).zip #[enc x]).foldl (fun t (q : Tmp × Value) => match q with | (p, v) => t.setIfInBounds p v) a.tmps = a.tmps.setIfInBounds p (enc x) := by simp
    refine Eq.mpr (congrArg (fun t => Code.wpIn (Fence.wide.inRound (B + 1)) m P assign _ { tmps := t, defers := [] } (W1.alloc o)) htm) ?_
    refine hturn (B + 1) m pre x W1 o _ hi hcells hlen (by omega) fun a' W2 hkeep hbody => ?_
    have hl2 := hkeep.same _ _ (by omega) hl1 rfl
    have hk2 := hkeep.same _ _ (Nat.le_refl _) hk1 rfl
    refine ⟨_, run_beginRound hl2 rfl, ?_⟩
    generalize hW3 : W2.putObj (B + 1) _ = W3
    have hto : ∀ Pr : World → Prop, OwnFrom B (fun (_ : Unit) V => Pr V) → Pr W2 → Pr W3 := fun Pr hPr h => hW3 ▸ hPr.putObj (s := ()) _ h (by omega) hl2 rfl
    have hs3 : W3.heap.size = W2.heap.size := by rw [← hW3]; simp
    have hl3 : W3.heap[B + 1]? = some (rec' .busy none) := by rw [← hW3]; exact World.putObj_heap_same (Array.getElem?_eq_some_iff.1 hl2).1
    have hk3 : W3.heap[B]? = some (.deferred (some [])) := by rw [← hW3]; exact (World.putObj_heap_other (by omega)).trans hk2
    refine wpIn_mono (hbody W3 hto hs3) ?_
    -- the record once more, behind the body
    have hend : ∀ (jump : Option Code) (W4 : World), (KeepsFrom B W3 W4 ∧ W4.heap[W1.heap.size]? = some o) → ∃ W5, (Instr.endRound (B + 1) jump).run P W4 = .ok (.bool jump.isNone) W5 ∧
        (∀ I' : List α → World → Prop, OwnFrom B I' → ∀ q, I' q W4 → I' q W5) ∧ W5.heap[B + 1]? = some (rec' (if jump.isNone then .ready else .done) jump) ∧ W5.heap[B]? = some (.deferred (some [])) ∧ W5.heap[W1.heap.size]? = some o := by
      intro jump W4 ⟨h4, h5⟩
      have hl4 := h4.same _ _ (by omega) hl3 rfl
      have hk4 := h4.same _ _ (Nat.le_refl _) hk3 rfl
      exact ⟨_, run_endRound jump hl4, fun I' hI' q hq => hI'.putObj _ hq (by omega) hl4 rfl, World.putObj_heap_same (Array.getElem?_eq_some_iff.1 hl4).1, (World.putObj_heap_other (by omega)).trans hk4, (World.putObj_heap_other (by omega)).trans h5⟩
    intro e a4 W4 hp
    match e, hp with
    | .normal, hp =>
      obtain ⟨W5, h1, h2, h3, h4, h5⟩ := hend none W4 hp.1
      exact ⟨_, _, h1, .inl ⟨rfl, h2 I hI _ hp.2, h3, h4⟩, h5⟩
    | .ret, hp =>
      obtain ⟨W5, h1, h2, h3, h4, h5⟩ := hend (some .ret) W4 hp.1
      exact ⟨_, _, h1, .inr ⟨rfl, .ret, h2 _ (hIx _) _ hp.2, h3, h4⟩, h5⟩
    | .exit id, hp =>
      obtain ⟨W5, h1, h2, h3, h4, h5⟩ := hend (some (.exit id)) W4 hp.1
      exact ⟨_, _, h1, .inr ⟨rfl, .exit id, h2 _ (hIx _) _ hp.2, h3, h4⟩, h5⟩
    | .goto t, hp =>
      obtain ⟨W5, h1, h2, h3, h4, h5⟩ := hend (some (.goto t)) W4 hp.1
      exact ⟨_, _, h1, .inr ⟨rfl, .goto t, h2 _ (hIx _) _ hp.2, h3, h4⟩, h5⟩
  refine ⟨B + 1, [{ target := .collected B, args := #[] }], (w.alloc (.deferred (some []))).alloc (rec' .ready none), { target := .fn (.func gf) lb, args := #[.func (.yield (B + 1)) #[] #[]] }, (w.alloc (.deferred (some []))).alloc (rec' .ready none), gf, #[.func (.yield (B + 1)) #[] #[]] ++ lb, (w.alloc (.deferred (some []))).alloc (rec' .ready none), henter, ?_, fun _ _ => trivial, ?_, fun h => by simp [Fence.wide] at h, ?_⟩
  · simp only [resolve, hg]
    simp [go_sem]
  · simp [invoke, go_sem, eg]
  · refine (hseq (B + 1) J Jx _ (hnew.mono hn) hnew (hsz2 ▸ hJ) (hsz2 ▸ hJx) (fun pre W' h => hIb pre W' h.1) (fun pre W' ⟨c, h, _⟩ => hIxb c pre W' h) hround ⟨hstart, hrec1, hdef1⟩ _).mono ?_
    rintro e W2 ⟨⟨v, rfl⟩, (⟨xs, hS, hi, hl, hk⟩ | ⟨pre, hSp, c, hi, hl, hk⟩)⟩
    · exact ⟨none, _, run_endLoop hl (by simp), hdone B xs _ (Nat.le_refl _) hS (hI.putObj _ hi (by omega) hl rfl) ((World.putObj_heap_other (by omega)).trans hk)⟩
    · exact ⟨some c, _, run_endLoop hl (by simp), hstop B c pre _ (Nat.le_refl _) hSp ((hIx c).putObj _ hi (by omega) hl rfl) ((World.putObj_heap_other (by omega)).trans hk)⟩
/-- a block of cells stays through whatever the law itself does -/
theorem ownFrom_block (B b : Nat) (o : Obj) (ho : o.isCells = true) : OwnFrom B (fun (_ : Unit) W => W.heap[b]? = some o) :=
  fun _ _ _ _ hs hg hr => (grownBy_keeps_cells hg (fun r e => (hr r e).2) hs ho).trans hs
theorem ownFrom_cell (B : Nat) (p : Addr) (v : Value) : OwnFrom B (fun (_ : Unit) W => W.cell? p = some v) :=
  fun _ _ _ _ hs hg hr => cell_kept hs hg (fun r e => (hr r e).2)
end Go.Proofs.Ytblgjcolmaidlaa
namespace Go.Proofs.Ytblgjcolmaidlaa
set_option maxRecDepth 100000
open Go.RowKit Go.Shelf

attribute [local go_sem] Oper.semAt_some

/-! the nodes in the order in which they begin -/
mutual
def Nd.pre : Nd → List Nd
  | .mk k s lo hi n l => .mk k s lo hi n l :: pres l
def pres : List Nd → List Nd
  | [] => []
  | x :: l => x.pre ++ pres l
end
theorem pre_mk (k : Int) (s : BitVec 256) (lo hi n : Int) (l : List Nd) : (Nd.mk k s lo hi n l).pre = .mk k s lo hi n l :: pres l := by rw [Nd.pre]
theorem pres_cons (x : Nd) (l : List Nd) : pres (x :: l) = x.pre ++ pres l := by rw [pres]
theorem pres_nil : pres [] = [] := by rw [pres]
theorem counts_cons (x : Nd) (l : List Nd) : counts (x :: l) = x.count + counts l := by rw [counts]
theorem counts_nil : counts [] = 0 := by rw [counts]
mutual
theorem Nd.pre_length : ∀ x : Nd, x.pre.length = x.count
  | .mk k s lo hi n l => by rw [pre_mk, count_mk, List.length_cons, pres_length l]; omega
theorem pres_length : ∀ l : List Nd, (pres l).length = counts l
  | [] => by rw [pres_nil, counts_nil]; rfl
  | x :: l => by rw [pres_cons, counts_cons, List.length_append, Nd.pre_length x, pres_length l]
end
theorem pres_append (l m : List Nd) : pres (l ++ m) = pres l ++ pres m := by
  induction l with
  | nil => rw [pres_nil]; rfl
  | cons x l ih => rw [List.cons_append, pres_cons, pres_cons, ih, List.append_assoc]
theorem counts_append (l m : List Nd) : counts (l ++ m) = counts l + counts m := by
  rw [← pres_length, ← pres_length, ← pres_length, pres_append, List.length_append]
/-- a node with its cells, in a world -/
abbrev NV (W0 : World) := { p : Nd × List Value // Nd.at W0 p.1 p.2 }
/-- the nodes that have come -/
def nds {W0 : World} (q : List (NV W0)) : List Nd := q.map (·.1.1)
theorem nds_append {W0 : World} (q r : List (NV W0)) : nds (q ++ r) = nds q ++ nds r := List.map_append
/-- as far as the first j nodes in a node reach -/
def fore (x : Nd) (j left : Nat) : List Nd := (x :: pres (x.nodes.take j)).take left
theorem fore_zero (x : Nd) {left : Nat} (h : 1 ≤ left) : fore x 0 left = [x] := by
  unfold fore
  rw [List.take_zero, pres_nil, List.take_of_length_le (by simpa using h)]
theorem fore_all (x : Nd) (left : Nat) : fore x x.nodes.length left = x.pre.take left := by
  unfold fore
  rw [List.take_length]
  cases x with
  | mk k s lo hi n l => rw [pre_mk]; rfl
theorem counts_take_le (l : List Nd) (j : Nat) : counts (l.take j) ≤ counts l := by
  have h := counts_append (l.take j) (l.drop j)
  rw [List.take_append_drop] at h
  omega
theorem fore_full (x : Nd) (j left : Nat) (h : left ≤ 1 + counts (x.nodes.take j)) : fore x j left = x.pre.take left := by
  unfold fore
  have hp : x.pre = (x :: pres (x.nodes.take j)) ++ pres (x.nodes.drop j) := by
    rw [List.cons_append, ← pres_append, List.take_append_drop]
    cases x with
    | mk k s lo hi n l => rw [pre_mk]; rfl
  rw [hp, List.take_append_of_le_length (by rw [List.length_cons, pres_length]; omega)]
theorem take_succ_counts (l : List Nd) (j : Nat) (hj : j < l.length) : counts (l.take (j + 1)) = counts (l.take j) + l[j].count := by
  rw [List.take_succ_eq_append_getElem hj, counts_append, counts_cons, counts_nil]; rfl
theorem fore_succ (x : Nd) (j left : Nat) (hj : j < x.nodes.length) :
    fore x (j + 1) left = fore x j left ++ (x.nodes[j].pre).take (left - (1 + counts (x.nodes.take j))) := by
  unfold fore
  rw [List.take_succ_eq_append_getElem hj, pres_append, pres_cons, pres_nil, List.append_nil, ← List.cons_append, List.take_append]
  rw [List.length_cons, pres_length, Nat.add_comm (counts _) 1]
theorem fore_prefix (x : Nd) (j left : Nat) : fore x j left <+: x.pre.take left := by
  unfold fore
  have hp : x.pre = (x :: pres (x.nodes.take j)) ++ pres (x.nodes.drop j) := by
    rw [List.cons_append, ← pres_append, List.take_append_drop]
    cases x with
    | mk k s lo hi n l => rw [pre_mk]; rfl
  rw [hp, List.take_append]
  exact List.prefix_append _ _
theorem fore_length (x : Nd) (j left : Nat) : (fore x j left).length = min left (1 + counts (x.nodes.take j)) := by
  unfold fore
  rw [List.length_take, List.length_cons, pres_length]; omega
theorem nums_len {left c p qn : Nat} (hp : ¬ p = 0) (hp' : p = left - (1 + c)) (h : qn = min left (1 + c)) : qn = 1 + c := by omega
theorem nums_fit {left c p N a : Nat} (hp : ¬ p = 0) (hp' : p = left - (1 + c)) (h : a + left ≤ N) : a + (1 + c) + p ≤ N := by omega
theorem nums_le {left c p : Nat} (hp' : p = left - (1 + c)) (h : left ≤ 100000) : p ≤ 100000 := by omega
theorem nums_next {left c p d e : Nat} (h1 : e = c + d) (h2 : p = left - (1 + c)) : p - d = left - (1 + e) := by omega
/-- what a call of visit ends in -/
def VisitPost {W0 : World} (J Jx : List (NV W0) → World → Prop) (x : Nd) (pre : List (NV W0)) (left : Nat) (e : Ending) (W' : World) : Prop :=
  (∃ q : List (NV W0), nds q = x.pre.take left ∧ e = .returned (.int .i64 ((left - x.count : Nat) : Int)) ∧ J (pre ++ q) W') ∨
  (e = .returned (.int .i64 0) ∧ ∃ q : List (NV W0), nds q <+: x.pre.take left ∧ Jx (pre ++ q) W')
end Go.Proofs.Ytblgjcolmaidlaa
namespace Go.Proofs.Ytblgjcolmaidlaa
set_option maxRecDepth 100000
open Go.RowKit
/-- one node of the row; next: the number of the group that comes -/
def stepN (next : Nat) : Nd → Option Nat
  | .mk k s lo hi n l => if (blankN k s lo hi n && formedN k s lo hi l) = true then (if k = 5 then (if n = (next : Int) then some (next + 1) else none) else some next) else none
theorem stepN_mk (next : Nat) (k : Int) (s : BitVec 256) (lo hi n : Int) (l : List Nd) : stepN next (.mk k s lo hi n l) = if (blankN k s lo hi n && formedN k s lo hi l) = true then (if k = 5 then (if n = (next : Int) then some (next + 1) else none) else some next) else none := rfl
def foldN : List Nd → Nat → Option Nat
  | [], next => some next
  | x :: l, next => (stepN next x).bind (foldN l)
theorem foldN_append (l m : List Nd) (next : Nat) : foldN (l ++ m) next = (foldN l next).bind (foldN m) := by
  induction l generalizing next with
  | nil => rfl
  | cons x l ih =>
    show (stepN next x).bind (foldN (l ++ m)) = ((stepN next x).bind (foldN l)).bind (foldN m)
    cases stepN next x with
    | none => rfl
    | some y => exact ih y
theorem foldN_prefix {l m : List Nd} {next : Nat} (h : l <+: m) (hn : foldN l next = none) : foldN m next = none := by
  obtain ⟨r, rfl⟩ := h
  rw [foldN_append, hn]; rfl
/-- a node behind a node, by P5.1's own words -/
def formAll : List Nd → Nat → Option Nat
  | [], next => some next
  | x :: l, next => (x.form next).bind (formAll l)
def strictK (k : Int) (l : List Nd) : Bool := if k = 2 then l.all (fun y => pieceK y.kind) else if k = 3 then l.all (fun y => branchK y.kind) else if k = 4 then l.all (fun y => atomK y.kind) else true
theorem forms_strict (k : Int) (f : Int → Bool) (hf : ∀ c, f c = true → within k c = true) : ∀ (l : List Nd) (next : Nat), l.all (fun y => f y.kind) = true → forms k l next = formAll l next
  | [], next, _ => by rw [forms_nil]; rfl
  | x :: l, next, h => by
    rw [List.all_cons, Bool.and_eq_true] at h
    rw [forms_cons, if_pos (hf _ h.1)]
    show _ = (x.form next).bind (formAll l)
    cases x.form next with
    | none => rfl
    | some y => exact forms_strict k f hf l y h.2
theorem forms_none (k : Int) : ∀ (l : List Nd) (next : Nat) (c : Nd), c ∈ l → (within k c.kind = false ∨ ∀ nx, c.form nx = none) → forms k l next = none
  | [], _, _, h, _ => by simp at h
  | x :: l, next, c, h, hc => by
    rw [forms_cons]
    split
    · rename_i hw
      rcases List.mem_cons.mp h with rfl | h
      · rcases hc with hc | hc
        · rw [hc] at hw; cases hw
        · rw [hc]; rfl
      · cases x.form next with
        | none => rfl
        | some y => exact forms_none k l y c h hc
    · rfl
theorem form_kind (x : Nd) (h : x.kind ≠ 1 ∧ x.kind ≠ 2 ∧ x.kind ≠ 3 ∧ x.kind ≠ 4 ∧ x.kind ≠ 5 ∧ x.kind ≠ 6) (nx : Nat) : x.form nx = none := by
  cases x with
  | mk k s lo hi n l =>
    obtain ⟨h1, h2, h3, h4, h5, h6⟩ := (show k ≠ 1 ∧ k ≠ 2 ∧ k ≠ 3 ∧ k ≠ 4 ∧ k ≠ 5 ∧ k ≠ 6 from h)
    rw [form_mk, if_neg]
    simp [fieldsOk, h1, h2, h3, h4, h5, h6]
theorem forms_loose (k : Int) (f : Int → Bool) (hf : ∀ c, f c = false → within k c = false ∨ (c ≠ 1 ∧ c ≠ 2 ∧ c ≠ 3 ∧ c ≠ 4 ∧ c ≠ 5 ∧ c ≠ 6)) (l : List Nd) (next : Nat) (h : l.all (fun y => f y.kind) = false) : forms k l next = none := by
  rw [List.all_eq_false] at h
  obtain ⟨c, hc, hv⟩ := h
  refine forms_none k l next c hc ?_
  rcases hf c.kind (by simpa using hv) with h | h
  · exact .inl h
  · exact .inr (form_kind c h)
theorem forms_kids (k : Int) (l : List Nd) (next : Nat) : forms k l next = if strictK k l = true then formAll l next else none := by
  unfold strictK
  by_cases h2 : k = 2
  · subst h2
    rw [if_pos rfl]
    split
    · rename_i h; exact forms_strict 2 pieceK (fun c h => by simp only [pieceK, atomK, Bool.or_eq_true, beq_iff_eq] at h; simp [within]; omega) l next h
    · rename_i h
      exact forms_loose 2 pieceK (fun c h => by simp only [pieceK, atomK, Bool.or_eq_false_iff, beq_eq_false_iff_ne] at h; simp [within]; omega) l next (by simpa using h)
  rw [if_neg h2]
  by_cases h3 : k = 3
  · subst h3
    rw [if_pos rfl]
    split
    · rename_i h; exact forms_strict 3 branchK (fun c h => by simp only [branchK, pieceK, atomK, Bool.or_eq_true, beq_iff_eq] at h; simp [within]; omega) l next h
    · rename_i h
      exact forms_loose 3 branchK (fun c h => by simp only [branchK, pieceK, atomK, Bool.or_eq_false_iff, beq_eq_false_iff_ne] at h; simp [within]; omega) l next (by simpa using h)
  rw [if_neg h3]
  by_cases h4 : k = 4
  · subst h4
    rw [if_pos rfl]
    split
    · rename_i h; exact forms_strict 4 atomK (fun c h => by simp only [atomK, Bool.or_eq_true, beq_iff_eq] at h; simp [within]; omega) l next h
    · rename_i h
      exact forms_loose 4 atomK (fun c h => by simp only [atomK, Bool.or_eq_false_iff, beq_eq_false_iff_ne] at h; simp [within]; omega) l next (by simpa using h)
  rw [if_neg h4, if_pos rfl]
  exact forms_strict k (fun _ => true) (fun c _ => by simp [within, h2, h3, h4]) l next (by simp)
/-- P5.1's own words of a node, and the program's two -/
theorem fields_split (k : Int) (s : BitVec 256) (lo hi n : Int) (l : List Nd) (next : Nat) :
    (fieldsOk k s lo hi n l.length next && strictK k l) = (blankN k s lo hi n && formedN k s lo hi l && (if k = 5 then decide (n = (next : Int)) else true)) := by
  unfold fieldsOk strictK blankN formedN boundedN
  by_cases h1 : k = 1
  · subst h1; simp
  by_cases h2 : k = 2
  · subst h2; simp [Bool.and_assoc]
  by_cases h3 : k = 3
  · subst h3; simp [Bool.and_assoc]
  by_cases h4 : k = 4
  · subst h4
    simp [Bool.and_assoc]
    cases decide (l.length = 1) <;> simp [Bool.and_comm, Bool.and_left_comm]
  by_cases h5 : k = 5
  · subst h5; simp [Bool.and_assoc]
    rw [show (n == (next : Int)) = decide (n = (next : Int)) from by rw [Bool.eq_iff_iff]; simp]
  by_cases h6 : k = 6
  · subst h6; simp
  simp [h1, h2, h3, h4, h5, h6]
mutual
theorem fold_pre : ∀ (x : Nd) (next : Nat), foldN x.pre next = x.form next
  | .mk k s lo hi n l, next => by
    rw [pre_mk, form_mk]
    show (stepN next (.mk k s lo hi n l)).bind (foldN (pres l)) = _
    have hs := fields_split k s lo hi n l next
    rw [forms_kids]
    rw [stepN_mk]
    by_cases hb : (blankN k s lo hi n && formedN k s lo hi l) = true
    · rw [if_pos hb]
      rw [hb, Bool.true_and] at hs
      by_cases h5 : k = 5
      · rw [if_pos h5, if_pos h5]
        rw [if_pos h5] at hs
        by_cases hn : n = (next : Int)
        · rw [if_pos hn]
          rw [decide_eq_true hn, Bool.and_eq_true] at hs
          rw [if_pos hs.1, if_pos hs.2]
          exact fold_pres l _
        · rw [if_neg hn]
          rw [decide_eq_false hn] at hs
          split
          · rename_i h; rw [h, Bool.true_and] at hs; rw [if_neg (by rw [hs]; simp)]; rfl
          · rfl
      · rw [if_neg h5, if_neg h5]
        rw [if_neg h5, Bool.and_eq_true] at hs
        rw [if_pos hs.1, if_pos hs.2]
        exact fold_pres l _
    · rw [if_neg hb]
      rw [Bool.eq_false_iff.mpr hb, Bool.false_and] at hs
      split
      · rename_i h; rw [h, Bool.true_and] at hs; rw [if_neg (by rw [hs]; simp)]; rfl
      · rfl
theorem fold_pres : ∀ (l : List Nd) (next : Nat), foldN (pres l) next = formAll l next
  | [], next => by rw [pres_nil]; rfl
  | x :: l, next => by
    rw [pres_cons, foldN_append, fold_pre x next]
    show (x.form next).bind _ = (x.form next).bind (formAll l)
    congr 1
    funext y
    exact fold_pres l y
end
end Go.Proofs.Ytblgjcolmaidlaa
namespace Go.Proofs.Ytblgjcolmaidlaa
set_option maxRecDepth 100000
open Go.RowKit Go.Shelf

attribute [local go_sem] Oper.semAt_some

/-- a variable in a block of its own -/
def Var (W : World) (b : Nat) (v : Value) (t : TypeId) : Prop := W.heap[b]? = some (.cells #[v] t)
theorem Var.cell {W : World} {b : Nat} {v : Value} {t : TypeId} (h : Var W b v t) : W.cell? ⟨b, 0, none⟩ = some v ∧ W.frozen? ⟨b, 0, none⟩ = false := by
  unfold Var at h
  constructor <;> simp [World.cell?, World.frozen?, h]
theorem Var.lt {W : World} {b : Nat} {v : Value} {t : TypeId} (h : Var W b v t) : b < W.heap.size := (Array.getElem?_eq_some_iff.1 h).1
theorem Var.set {W : World} {b : Nat} {v : Value} {t : TypeId} (h : Var W b v t) (u : Value) : Var (W.setCell ⟨b, 0, none⟩ u) b u t := by
  unfold Var at h ⊢
  obtain ⟨hlt, hk⟩ := Array.getElem?_eq_some_iff.1 h
  show (W.heap.modify b _)[b]? = _
  rw [Array.getElem?_eq_getElem (by rw [Array.size_modify]; exact hlt), Array.getElem_modify_self, hk]
  simp
theorem Var.new (W : World) (v : Value) (t : TypeId) : Var (W.alloc (.cells #[v] t)) W.heap.size v t := World.alloc_heap_new W _
theorem Var.alloc {W : World} {b : Nat} {v : Value} {t : TypeId} (h : Var W b v t) (o : Obj) : Var (W.alloc o) b v t := (Below.heap_alloc W o b h.lt).trans h
theorem Var.own (B b : Nat) (v : Value) (t : TypeId) : OwnFrom B (fun (_ : Unit) W => Var W b v t) := ownFrom_block B b _ rfl
end Go.Proofs.Ytblgjcolmaidlaa
namespace Go.Proofs.Ytblgjcolmaidlaa
set_option maxRecDepth 100000
open Go.RowKit
theorem deeps_cons (x : Nd) (l : List Nd) : deeps (x :: l) = max x.deep (deeps l) := by rw [deeps]
theorem deeps_nil : deeps [] = 0 := by rw [deeps]
theorem deeps_append (l m : List Nd) : deeps (l ++ m) = max (deeps l) (deeps m) := by
  induction l with
  | nil => rw [deeps_nil, List.nil_append]; omega
  | cons x l ih => rw [List.cons_append, deeps_cons, deeps_cons, ih]; omega
theorem deeps_take_succ (l : List Nd) (j : Nat) (hj : j < l.length) : deeps (l.take (j + 1)) = max (deeps (l.take j)) l[j].deep := by
  rw [List.take_succ_eq_append_getElem hj, deeps_append, deeps_cons, deeps_nil]; omega
theorem deeps_take_le (l : List Nd) (j : Nat) : deeps (l.take j) ≤ deeps l := by
  have h := deeps_append (l.take j) (l.drop j)
  rw [List.take_append_drop] at h
  omega
theorem dnum_stop {d t D f : Nat} (hd : d = min (1 + t) (f + 1)) (h : d = f + 1) (ht : t ≤ D) : f + 1 = min (1 + D) (f + 1) := by omega
theorem dnum_next {d t g c t' : Nat} (hd : d = min (1 + t) (g + 1 + 1)) (hne : ¬ d = g + 1 + 1) (ht : t' = max t c) : max d (1 + min c (g + 1)) = min (1 + t') (g + 1 + 1) := by omega
theorem dnum_le {d t f : Nat} (hd : d = min (1 + t) (f + 1)) : 1 ≤ d ∧ d ≤ f + 1 := by omega
theorem dnum_zero {d t : Nat} (hd : d = min (1 + t) (0 + 1)) : d = 0 + 1 := by omega
end Go.Proofs.Ytblgjcolmaidlaa
namespace Go.Proofs.Ytblgjcolmaidlaa
set_option maxRecDepth 100000
open Go.RowKit Go.Shelf

attribute [local go_sem] Oper.semAt_some

theorem Var.below {B : Nat} {W W' : World} {b : Nat} {v : Value} {t : TypeId} (h : Var W b v t) (hb : Below B W W') (hlt : b < B) : Var W' b v t := (hb.block b hlt).trans h
theorem block_below {B : Nat} {W W' : World} {b : Nat} {o : Obj} (h : W.heap[b]? = some o) (hb : Below B W W') (hlt : b < B) : W'.heap[b]? = some o := (hb.block b hlt).trans h
theorem keepsFrom_below {B : Nat} {W W' : World} (h : Below W.heap.size W W') : KeepsFrom B W W' := ⟨h.size, fun k _ _ hk _ => (h.block k (Array.getElem?_eq_some_iff.1 hk).1).trans hk⟩
/-- what stays through a round of Good: the answer, the pattern, the number, and the two blocks of the round -/
def RoundF (n₀ : Nat) (w0 : World) (bR bP g bo bx : Nat) (P o X : Obj) (v : Value) (W : World) : Prop :=
  Var W bR (.bool false) 4 ∧ W.heap[bP]? = some P ∧ Var W g v 3 ∧ W.heap[bo]? = some o ∧ W.heap[bx]? = some X ∧ Below n₀ w0 W
theorem block_lt {W : World} {b : Nat} {o : Obj} (h : W.heap[b]? = some o) : b < W.heap.size := (Array.getElem?_eq_some_iff.1 h).1
theorem RoundF.still {n₀ : Nat} {w0 : World} {bR bP g bo bx : Nat} {P o X : Obj} {v : Value} {W W' : World} (h : RoundF n₀ w0 bR bP g bo bx P o X v W) (hn : n₀ ≤ W.heap.size) (hb : Below W.heap.size W W') : RoundF n₀ w0 bR bP g bo bx P o X v W' :=
  ⟨h.1.below hb h.1.lt, block_below h.2.1 hb (block_lt h.2.1), h.2.2.1.below hb h.2.2.1.lt, block_below h.2.2.2.1 hb (block_lt h.2.2.2.1), block_below h.2.2.2.2.1 hb (block_lt h.2.2.2.2.1), h.2.2.2.2.2.trans (hb.mono hn)⟩
def GoodI (w w0 : World) (g : Nat) (P : Obj) (pre : List (NV w)) (W : World) : Prop :=
  Var W (w.heap.size + 1) (.bool false) 4 ∧ W.heap[w.heap.size]? = some P ∧ (∃ nx : Nat, nx ≤ pre.length ∧ foldN (nds pre) 1 = some (nx + 1) ∧ Var W g (.int .i64 (nx : Int)) 3) ∧ Below w.heap.size w0 W
def GoodX (w w0 : World) (c : Code) (pre : List (NV w)) (W : World) : Prop :=
  c = .ret ∧ foldN (nds pre) 1 = none ∧ Var W (w.heap.size + 1) (.bool false) 4 ∧ Below w.heap.size w0 W
theorem GoodI.own {w w0 : World} {g : Nat} {P : Obj} (hP : P.isCells = true) (hw : w.heap.size ≤ w0.heap.size) : OwnFrom w0.heap.size (GoodI w w0 g P) := by
  rintro q A B row ⟨h1, h2, ⟨nx, h3, h4, h5⟩, h6⟩ hg hr
  exact ⟨Var.own _ _ _ _ () A B row h1 hg hr, ownFrom_block _ _ _ hP () A B row h2 hg hr, ⟨nx, h3, h4, Var.own _ _ _ _ () A B row h5 hg hr⟩, ownFrom_below (β := Unit) hw hw () A B row h6 hg hr⟩
theorem GoodX.own {w w0 : World} (hw : w.heap.size ≤ w0.heap.size) (c : Code) : OwnFrom w0.heap.size (GoodX w w0 c) := by
  rintro q A B row ⟨h1, h2, h3, h4⟩ hg hr
  exact ⟨h1, h2, Var.own _ _ _ _ () A B row h3 hg hr, ownFrom_below (β := Unit) hw hw () A B row h4 hg hr⟩
theorem RoundF.own {n₀ B : Nat} {w0 : World} {bR bP g bo bx : Nat} {P o X : Obj} {v : Value} (hP : P.isCells = true) (ho : o.isCells = true) (hX : X.isCells = true) (hn : n₀ ≤ w0.heap.size) (hB : n₀ ≤ B) : OwnFrom B (fun (_ : Unit) W => RoundF n₀ w0 bR bP g bo bx P o X v W) := by
  rintro q A B row ⟨h1, h2, h3, h4, h5, h6⟩ hg hr
  exact ⟨Var.own _ _ _ _ () A B row h1 hg hr, ownFrom_block _ _ _ hP () A B row h2 hg hr, Var.own _ _ _ _ () A B row h3 hg hr, ownFrom_block _ _ _ ho () A B row h4 hg hr, ownFrom_block _ _ _ hX () A B row h5 hg hr, ownFrom_below (β := Unit) hn hB () A B row h6 hg hr⟩
theorem RoundF.start {n₀ : Nat} {w0 : World} {bR bP g : Nat} {P : Obj} {v : Value} {W : World} (h1 : Var W bR (.bool false) 4) (h2 : W.heap[bP]? = some P) (h3 : Var W g v 3) (hb : Below n₀ w0 W) (hn : n₀ ≤ W.heap.size) (o X : Obj) :
    RoundF n₀ w0 bR bP g W.heap.size (W.heap.size + 1) P o X v ((W.alloc o).alloc X) := by
  have hb1 : Below W.heap.size W (W.alloc o) := (Below.refl _ _).alloc (Nat.le_refl _) _
  have hb2 : Below W.heap.size W ((W.alloc o).alloc X) := hb1.alloc (by simp) _
  refine ⟨h1.below hb2 h1.lt, block_below h2 hb2 (block_lt h2), h3.below hb2 h3.lt, (Below.heap_alloc _ _ _ (by simp)).trans (World.alloc_heap_new W o), ?_, hb.trans (hb2.mono hn)⟩
  have h := World.alloc_heap_new (W.alloc o) X
  rw [World.size_alloc] at h; exact h
/-- a round of Good leaves with 'no' -/
theorem stop_post {w w0 W3 W5 : World} {bP g bo bx B : Nat} {P o X : Obj} {v : Value} {pre : List (NV w)} (h5 : RoundF w.heap.size w0 (w.heap.size + 1) bP g bo bx P o X v W5) (hk : KeepsFrom B W3 W5) (hnone : foldN (nds pre) 1 = none) (hne : bo ≠ w.heap.size + 1) :
    (KeepsFrom B W3 (W5.setCell ⟨w.heap.size + 1, 0, none⟩ (.bool false)) ∧ (W5.setCell ⟨w.heap.size + 1, 0, none⟩ (.bool false)).heap[bo]? = some o) ∧ GoodX w w0 .ret pre (W5.setCell ⟨w.heap.size + 1, 0, none⟩ (.bool false)) :=
  ⟨⟨hk.trans ((KeepsOthers.setCell _ _ _).from _), (Below.heap_setCell _ _ _ _ hne).trans h5.2.2.2.1⟩, rfl, hnone, h5.1.set _, h5.2.2.2.2.2.setCell (p := ⟨w.heap.size + 1, 0, none⟩) (Nat.le_succ _) _⟩
/-- a round of Good goes on -/
theorem next_post {w w0 W3 W5 : World} {g bo bx B : Nat} {P o X : Obj} {nx : Nat} {pre : List (NV w)} (h5 : RoundF w.heap.size w0 (w.heap.size + 1) w.heap.size g bo bx P o X (.int .i64 (nx : Int)) W5) (hk : KeepsFrom B W3 W5) (hle : nx ≤ pre.length) (hf : foldN (nds pre) 1 = some (nx + 1)) :
    (KeepsFrom B W3 W5 ∧ W5.heap[bo]? = some o) ∧ GoodI w w0 g P pre W5 :=
  ⟨⟨hk, h5.2.2.2.1⟩, h5.1, h5.2.1, ⟨nx, hle, hf, h5.2.2.1⟩, h5.2.2.2.2.2⟩
/-- the number goes up -/
theorem RoundF.up {n₀ : Nat} {w0 : World} {bR bP g bo bx : Nat} {P o X : Obj} {v : Value} {W : World} (h : RoundF n₀ w0 bR bP g bo bx P o X v W) (h1 : bR ≠ g) (h2 : bP ≠ g) (h3 : bo ≠ g) (h4 : bx ≠ g) (hn : n₀ ≤ g) (u : Value) :
    RoundF n₀ w0 bR bP g bo bx P o X u (W.setCell ⟨g, 0, none⟩ u) :=
  ⟨(Below.heap_setCell _ _ _ _ h1).trans h.1, (Below.heap_setCell _ _ _ _ h2).trans h.2.1, h.2.2.1.set u, (Below.heap_setCell _ _ _ _ h3).trans h.2.2.2.1, (Below.heap_setCell _ _ _ _ h4).trans h.2.2.2.2.1, h.2.2.2.2.2.setCell (p := ⟨g, 0, none⟩) hn _⟩
theorem foldN_snoc {l : List Nd} {next nx : Nat} (h : foldN l next = some nx) (x : Nd) : foldN (l ++ [x]) next = stepN nx x := by
  rw [foldN_append, h]
  show (stepN nx x).bind (foldN []) = _
  cases stepN nx x <;> rfl
theorem cells_at {W : World} {b : Nat} {vs : Array Value} {t : TypeId} (h : W.heap[b]? = some (.cells vs t)) (q : Nat) : W.cell? ⟨b, q, none⟩ = vs[q]? := by simp [World.cell?, h]
/-- the cells of a pattern -/
def patCells (st en : Bool) (cs : List Value) (gr : Int) : List Value := .bool st :: .bool en :: (cs ++ [.int .i64 gr])
theorem good_deep {x : Nd} {gr : Int} (h : 2000 < sizeOfN x ∨ 64 < depthOfN x) : goodP x gr = false := by
  unfold sizeOfN depthOfN at h
  unfold goodP
  by_cases h1 : x.count ≤ 2000
  · rw [decide_eq_false (show ¬ x.deep ≤ 64 from by omega), Bool.and_false, Bool.false_and]
  · rw [decide_eq_false h1, Bool.false_and, Bool.false_and]
theorem good_fold {x : Nd} {gr : Int} (h1 : ¬ 2000 < sizeOfN x) (h2 : ¬ 64 < depthOfN x) : goodP x gr = (match foldN x.pre 1 with | some m => gr == (m : Int) - 1 && decide (gr ≤ 32) | none => false) ∧ x.pre.take 100000 = x.pre := by
  unfold sizeOfN at h1
  unfold depthOfN at h2
  refine ⟨?_, List.take_of_length_le (by rw [Nd.pre_length]; omega)⟩
  unfold goodP
  rw [decide_eq_true (show x.count ≤ 2000 from by omega), decide_eq_true (show x.deep ≤ 64 from by omega), fold_pre]
  rfl
end Go.Proofs.Ytblgjcolmaidlaa
