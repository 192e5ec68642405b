/- A range over a function whose iterator reads memory also behind a round that has left: what the caller says of its rounds says also that old memory is as it was. -/
import Derived.RangeFuncNested
import Derived.RangeFuncBound
import Derived.RangeFuncCalls
import Derived.RangeFuncLeaves
import Derived.Shelf.Abstract
import Derived.Shelf.RegionOpen
import Derived.WalkKit
import Derived.OwnWalkIn
import Derived.TacticsInMore
import Derived.LoopNIn
import Derived.LoopIn
import Derived.Test.YtddbheoncbphhaaRows
namespace Go.Proofs.Ytddbheoncbphhaa
set_option maxRecDepth 100000
open Go.RowKit

/-- new blocks, and what lies in them: nothing that lay has turned -/
theorem abides_still {β : Type} {B : Nat} {J : β → World → Prop} (h : AbidesFrom B J) {s : β} {W W' : World} (hs : J s W) (hb : Below W.heap.size W W') : J s W' :=
  h s W W' none hs ⟨hb.os, hb.tape, hb.output, hb.size, fun k hk _ => hb.block k hk⟩ (fun r e => by cases e)
/-- what an iterator does, of whatever rounds that leave the memory below n₀ as it was in w0, and the block that the iterator has laid last -/
def SeqHeld {α : Type} (P : Program) (g : Nat) (lb : Array Value) (enc : α → Value) (n₀ : Nat) (w0 : World) (S Sp : List α → Prop) (N : Nat) : Prop :=
  ∀ (l : Nat) (J Jx : List α → World → Prop) (W : World), Below n₀ w0 W → Below w0.heap.size w0 W → AbidesFrom W.heap.size J → AbidesFrom W.heap.size Jx →
    (∀ pre W', J pre W' → Below n₀ w0 W') → (∀ pre W', Jx pre W' → Below n₀ w0 W') →
    (∀ m pre x W1 o, J pre W1 → o.isCells = true → pre.length < N → YieldAt Fence.wide m P l #[enc x] (W1.alloc o) fun e W' =>
      ((e = .returned (.bool true) ∧ J (pre ++ [x]) W') ∨ (e = .returned (.bool false) ∧ Jx (pre ++ [x]) W')) ∧ W'.heap[W1.heap.size]? = some o) →
    J [] W →
    ∀ m, CallsIn Fence.wide m P g (#[.func (.yield l) #[] #[]] ++ lb) W fun e W' => (∃ v, e = .returned v) ∧ ((∃ xs, S xs ∧ J xs W') ∨ (∃ pre, Sp pre ∧ Jx pre W'))

/-- how a round may be left -/
def heldPost {α : Type} (B b : Nat) (o : Obj) (I : List α → World → Prop) (Ix : Code → List α → World → Prop) (xs : List α) (W : World) : Exit → Act → World → Prop
  | .normal, _, W' => (KeepsFrom B W W' ∧ W'.heap[b]? = some o) ∧ I xs W'
  | .ret, _, W' => (KeepsFrom B W W' ∧ W'.heap[b]? = some o) ∧ Ix .ret xs W'
  | .exit id, _, W' => (KeepsFrom B W W' ∧ W'.heap[b]? = some o) ∧ Ix (.exit id) xs W'
  | .goto t, _, W' => (KeepsFrom B W W' ∧ W'.heap[b]? = some o) ∧ Ix (.goto t) xs W'
  | .panic _, _, _ => False
  | .outgrown, _, _ => False

theorem wp_range_held {α : Type} {n : Nat} {P : Program} {g : Operand} {p : Tmp} {assign body : Code} {Q : Exit → Act → World → Prop} {a : Act} {w : World}
    {gf : Nat} {lb : Array Value} (hg : a.eval g = .func (.func gf) #[] lb) (eg : ∀ args w, (callFunc gf args).run P w = .ok (.enter gf args) w)
    {enc : α → Value} {n₀ : Nat} {w0 : World} {S Sp : List α → Prop} {N : Nat} (hseq : SeqHeld P gf lb enc n₀ w0 S Sp N) (hn : n₀ ≤ w0.heap.size) (hb0 : Below w0.heap.size w0 w)
    (I : List α → World → Prop) (Ix : Code → List α → World → Prop) (hI : OwnFrom w.heap.size I) (hIx : ∀ c, OwnFrom w.heap.size (Ix c))
    (hIb : ∀ pre W, I pre W → Below n₀ w0 W) (hIxb : ∀ c pre W, Ix c pre W → Below n₀ w0 W) (h0 : I [] w)
    (hturn : ∀ (l m : Nat) (pre : List α) (x : α) (W : World) (o : Obj) (K : Act → World → Prop), I pre W → o.isCells = true → pre.length < N → w.heap.size < W.heap.size →
      (∀ a' W', KeepsFrom w.heap.size (W.alloc o) W' →
        (∀ W3, (∀ Pr : World → Prop, OwnFrom w.heap.size (fun (_ : Unit) V => Pr V) → Pr W' → Pr W3) → W3.heap.size = W'.heap.size → body.wpIn (Fence.wide.inRound l) m P (heldPost w.heap.size W.heap.size o I Ix (pre ++ [x]) W3) a' W3) → K a' W') →
      assign.wpIn (Fence.wide.inRound l) m P (Exit.then K (fun _ _ _ => False)) { tmps := a.tmps.setIfInBounds p (enc x), defers := [] } (W.alloc o))
    (hdone : ∀ (D : Nat) (xs : List α) (W : World), w.heap.size ≤ D → S xs → I xs W → W.heap[D]? = some (.deferred (some [])) → Q .normal { a with defers := { target := .collected D, args := #[] } :: a.defers } W)
    (hstop : ∀ (D : Nat) (c : Code) (pre : List α) (W : World), w.heap.size ≤ D → Sp pre → Ix c pre W → W.heap[D]? = some (.deferred (some [])) → c.wpIn Fence.wide n P Q { a with defers := { target := .collected D, args := #[] } :: a.defers } W) :
    (Code.rangeFunc g #[p] assign body).wpIn Fence.wide n P Q a w := by
  refine wpIn_rangeFunc fun fn hfn => ?_
  generalize hB : w.heap.size = B at *
  -- the record of the loop, in each of its states
  let rec' : LoopState → Option Code → Obj := fun st pe => .loop { state := st, pending := pe, fn, tmps := a.tmps, params := #[p], assign, body, defers := B }
  have hsz2 : ((w.alloc (.deferred (some []))).alloc (rec' .ready none)).heap.size = B + 2 := by simp [hB]
  have hrec1 : ((w.alloc (.deferred (some []))).alloc (rec' .ready none)).heap[B + 1]? = some (rec' .ready none) := by
    have h := World.alloc_heap_new (w.alloc (.deferred (some []))) (rec' .ready none)
    rw [World.size_alloc, hB] at h; exact h
  have hdef1 : ((w.alloc (.deferred (some []))).alloc (rec' .ready none)).heap[B]? = some (.deferred (some [])) := by
    have h := World.alloc_heap_new w (.deferred (some []))
    rw [hB] at h
    exact (Below.heap_alloc _ _ _ (by simp; omega)).trans h
  have hnew : Below w0.heap.size w0 ((w.alloc (.deferred (some []))).alloc (rec' .ready none)) :=
    (hb0.alloc hb0.size _).alloc (by have := hb0.size; simp; omega) _
  have hstart : I [] ((w.alloc (.deferred (some []))).alloc (rec' .ready none)) := hI.alloc _ (hI.alloc _ h0)
  have henter := run_enterLoop_outer (P := P) (w := w) fn a.tmps #[p] assign body
  rw [hB] at henter
  -- the invariants that the iterator is given: the caller's own, the two blocks beside
  let J : List α → World → Prop := fun pre W => I pre W ∧ W.heap[B + 1]? = some (rec' .ready none) ∧ W.heap[B]? = some (.deferred (some []))
  let Jx : List α → World → Prop := fun pre W => ∃ c, Ix c pre W ∧ W.heap[B + 1]? = some (rec' .done (some c)) ∧ W.heap[B]? = some (.deferred (some []))
  -- a walk's block lies beyond B and holds no cells
  have hwalk : ∀ {A : World} {row : Option Nat}, (∀ r, row = some r → B + 2 ≤ r ∧ ∃ o : Obj, A.heap[r]? = some o ∧ o.isWalk = true) → ∀ r, row = some r → B ≤ r ∧ ∃ o : Obj, A.heap[r]? = some o ∧ o.isCells = false := by
    intro A row h r e
    obtain ⟨h1, o, h2, h3⟩ := h r e
    exact ⟨by omega, o, h2, Obj.not_cells_of_walk h3⟩
  have hJ : AbidesFrom (B + 2) J := fun s A A' row ⟨h1, h2, h3⟩ hg hr =>
    ⟨hI s A A' row h1 hg (hwalk hr), (grownBy_keeps hg (fun r e => (hr r e).2) h2 rfl).trans h2, (grownBy_keeps hg (fun r e => (hr r e).2) h3 rfl).trans h3⟩
  have hJx : AbidesFrom (B + 2) Jx := fun s A A' row ⟨c, h1, h2, h3⟩ hg hr =>
    ⟨c, hIx c s A A' row h1 hg (hwalk hr), (grownBy_keeps hg (fun r e => (hr r e).2) h2 rfl).trans h2, (grownBy_keeps hg (fun r e => (hr r e).2) h3 rfl).trans h3⟩
  -- one round
  have hround : ∀ m pre x W1 o, J pre W1 → o.isCells = true → pre.length < N → YieldAt Fence.wide m P (B + 1) #[enc x] (W1.alloc o) fun e W' =>
      ((e = .returned (.bool true) ∧ J (pre ++ [x]) W') ∨ (e = .returned (.bool false) ∧ Jx (pre ++ [x]) W')) ∧ W'.heap[W1.heap.size]? = some o := by
    rintro m pre x W1 o ⟨hi, hl, hk⟩ hcells hlen
    have hBW : B + 1 < W1.heap.size := (Array.getElem?_eq_some_iff.1 hl).1
    have hl1 : (W1.alloc o).heap[B + 1]? = some (rec' .ready none) := (Below.heap_alloc W1 o _ hBW).trans hl
    have hk1 : (W1.alloc o).heap[B]? = some (.deferred (some [])) := (Below.heap_alloc W1 o _ (by omega)).trans hk
    refine ⟨fn, _, assign, body, run_yield (args := #[enc x]) hl1 rfl, roundIn_of_wpIn hfn ?_⟩
    have htm : ((#[p] : Array Tmp).zip #[enc x]).foldl (fun t (q : Tmp × Value) => match q with | (p, v) => t.setIfInBounds p v) a.tmps = a.tmps.setIfInBounds p (enc x) := by simp
    refine Eq.mpr (congrArg (fun t => Code.wpIn (Fence.wide.inRound (B + 1)) m P assign _ { tmps := t, defers := [] } (W1.alloc o)) htm) ?_
    refine hturn (B + 1) m pre x W1 o _ hi hcells hlen (by omega) fun a' W2 hkeep hbody => ?_
    have hl2 := hkeep.same _ _ (by omega) hl1 rfl
    have hk2 := hkeep.same _ _ (Nat.le_refl _) hk1 rfl
    refine ⟨_, run_beginRound hl2 rfl, ?_⟩
    generalize hW3 : W2.putObj (B + 1) _ = W3
    have hto : ∀ Pr : World → Prop, OwnFrom B (fun (_ : Unit) V => Pr V) → Pr W2 → Pr W3 := fun Pr hPr h => hW3 ▸ hPr.putObj (s := ()) _ h (by omega) hl2 rfl
    have hs3 : W3.heap.size = W2.heap.size := by rw [← hW3]; simp
    have hl3 : W3.heap[B + 1]? = some (rec' .busy none) := by rw [← hW3]; exact World.putObj_heap_same (Array.getElem?_eq_some_iff.1 hl2).1
    have hk3 : W3.heap[B]? = some (.deferred (some [])) := by rw [← hW3]; exact (World.putObj_heap_other (by omega)).trans hk2
    refine wpIn_mono (hbody W3 hto hs3) ?_
    -- the record once more, behind the body
    have hend : ∀ (jump : Option Code) (W4 : World), (KeepsFrom B W3 W4 ∧ W4.heap[W1.heap.size]? = some o) → ∃ W5, (Instr.endRound (B + 1) jump).run P W4 = .ok (.bool jump.isNone) W5 ∧
        (∀ I' : List α → World → Prop, OwnFrom B I' → ∀ q, I' q W4 → I' q W5) ∧ W5.heap[B + 1]? = some (rec' (if jump.isNone then .ready else .done) jump) ∧ W5.heap[B]? = some (.deferred (some [])) ∧ W5.heap[W1.heap.size]? = some o := by
      intro jump W4 ⟨h4, h5⟩
      have hl4 := h4.same _ _ (by omega) hl3 rfl
      have hk4 := h4.same _ _ (Nat.le_refl _) hk3 rfl
      exact ⟨_, run_endRound jump hl4, fun I' hI' q hq => hI'.putObj _ hq (by omega) hl4 rfl, World.putObj_heap_same (Array.getElem?_eq_some_iff.1 hl4).1, (World.putObj_heap_other (by omega)).trans hk4, (World.putObj_heap_other (by omega)).trans h5⟩
    intro e a4 W4 hp
    match e, hp with
    | .normal, hp =>
      obtain ⟨W5, h1, h2, h3, h4, h5⟩ := hend none W4 hp.1
      exact ⟨_, _, h1, .inl ⟨rfl, h2 I hI _ hp.2, h3, h4⟩, h5⟩
    | .ret, hp =>
      obtain ⟨W5, h1, h2, h3, h4, h5⟩ := hend (some .ret) W4 hp.1
      exact ⟨_, _, h1, .inr ⟨rfl, .ret, h2 _ (hIx _) _ hp.2, h3, h4⟩, h5⟩
    | .exit id, hp =>
      obtain ⟨W5, h1, h2, h3, h4, h5⟩ := hend (some (.exit id)) W4 hp.1
      exact ⟨_, _, h1, .inr ⟨rfl, .exit id, h2 _ (hIx _) _ hp.2, h3, h4⟩, h5⟩
    | .goto t, hp =>
      obtain ⟨W5, h1, h2, h3, h4, h5⟩ := hend (some (.goto t)) W4 hp.1
      exact ⟨_, _, h1, .inr ⟨rfl, .goto t, h2 _ (hIx _) _ hp.2, h3, h4⟩, h5⟩
  refine ⟨B + 1, [{ target := .collected B, args := #[] }], (w.alloc (.deferred (some []))).alloc (rec' .ready none), { target := .fn (.func gf) lb, args := #[.func (.yield (B + 1)) #[] #[]] }, (w.alloc (.deferred (some []))).alloc (rec' .ready none), gf, #[.func (.yield (B + 1)) #[] #[]] ++ lb, (w.alloc (.deferred (some []))).alloc (rec' .ready none), henter, ?_, fun _ _ => trivial, ?_, fun h => by simp [Fence.wide] at h, ?_⟩
  · simp only [resolve, hg]
    simp [go_sem]
  · simp [invoke, go_sem, eg]
  · refine (hseq (B + 1) J Jx _ (hnew.mono hn) hnew (hsz2 ▸ hJ) (hsz2 ▸ hJx) (fun pre W' h => hIb pre W' h.1) (fun pre W' ⟨c, h, _⟩ => hIxb c pre W' h) hround ⟨hstart, hrec1, hdef1⟩ _).mono ?_
    rintro e W2 ⟨⟨v, rfl⟩, (⟨xs, hS, hi, hl, hk⟩ | ⟨pre, hSp, c, hi, hl, hk⟩)⟩
    · exact ⟨none, _, run_endLoop hl (by simp), hdone B xs _ (Nat.le_refl _) hS (hI.putObj _ hi (by omega) hl rfl) ((World.putObj_heap_other (by omega)).trans hk)⟩
    · exact ⟨some c, _, run_endLoop hl (by simp), hstop B c pre _ (Nat.le_refl _) hSp ((hIx c).putObj _ hi (by omega) hl rfl) ((World.putObj_heap_other (by omega)).trans hk)⟩
/-- a block of cells stays through whatever the law itself does -/
theorem ownFrom_block (B b : Nat) (o : Obj) (ho : o.isCells = true) : OwnFrom B (fun (_ : Unit) W => W.heap[b]? = some o) :=
  fun _ _ _ _ hs hg hr => (grownBy_keeps_cells hg (fun r e => (hr r e).2) hs ho).trans hs
theorem ownFrom_cell (B : Nat) (p : Addr) (v : Value) : OwnFrom B (fun (_ : Unit) W => W.cell? p = some v) :=
  fun _ _ _ _ hs hg hr => cell_kept hs hg (fun r e => (hr r e).2)
end Go.Proofs.Ytddbheoncbphhaa
