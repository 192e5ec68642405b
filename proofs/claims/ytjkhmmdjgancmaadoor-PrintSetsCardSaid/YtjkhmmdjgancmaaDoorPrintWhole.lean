/- Printing, whole: its plain mathematics, what is written is read as it was; print.Set, Node and Text walked; law 7's awake. -/
import Derived.Test.YtjkhmmdjgancmaaDoorSetRuns
import Derived.Test.YtjkhmmdjgancmaaDoorTokenWhole
import Derived.Test.YtjkhmmdjgancmaaDoorTreeMath
import Derived.Test.YtjkhmmdjgancmaaDoorClassIn
import Derived.Test.YtjkhmmdjgancmaaDoorParseWhole
import Derived.Test.YtjkhmmdjgancmaaDoorText
import Derived.Lib.Builder
import Derived.Lib.AppendStr
import Derived.Lib.UnsafeStr
import Derived.RangeFuncRecord
import Derived.Test.YtjkhmmdjgancmaaDoorBlockMem
import Derived.Deep.DeepCutAuto
import Derived.Lib.AppendIntMem
/-! The plain mathematics of runs: what they hold, how they lie. -/
namespace Go.Proofs.YtjkhmmdjgancmaaDoor
set_option maxRecDepth 100000
open Go.RowKit

def expand (acc : List (Nat × Nat)) : List Nat := acc.flatMap fun r => upTo r.1 r.2
def Good (acc : List (Nat × Nat)) : Prop := (∀ r ∈ acc, r.1 ≤ r.2) ∧ acc.Pairwise (fun r r' => r.2 + 1 < r'.1)
theorem upTo_snoc (lo hi : Nat) (h : lo ≤ hi) : upTo lo (hi + 1) = upTo lo hi ++ [hi + 1] := by
  unfold upTo
  rw [show hi + 1 + 1 - lo = (hi + 1 - lo) + 1 from by omega, List.range_succ, List.map_append]
  simp; omega
theorem upTo_one (b : Nat) : upTo b b = [b] := by
  unfold upTo
  rw [show b + 1 - b = 1 from by omega]
  simp
theorem expand_append (a b : List (Nat × Nat)) : expand (a ++ b) = expand a ++ expand b := by simp [expand]
theorem expand_one (r : Nat × Nat) : expand [r] = upTo r.1 r.2 := by simp [expand]
theorem addRun_good (acc : List (Nat × Nat)) (b : Nat) (h : Good acc) (hb : ∀ r, acc.getLast? = some r → r.2 < b) :
    Good (addRun acc b) ∧ expand (addRun acc b) = expand acc ++ [b] ∧ ∀ r, (addRun acc b).getLast? = some r → r.2 = b := by
  rcases List.eq_nil_or_concat acc with rfl | ⟨pre, ⟨lo, hi⟩, rfl⟩
  · refine ⟨⟨?_, ?_⟩, ?_, ?_⟩
    · intro r hr; simp [addRun] at hr; subst hr; exact Nat.le_refl _
    · simp [addRun]
    · simp [addRun, expand, upTo_one]
    · intro r hr; simp [addRun] at hr; subst hr; rfl
  · rw [List.concat_eq_append] at *
    obtain ⟨h1, h2⟩ := h
    have hlt : hi < b := hb (lo, hi) (by simp)
    have hlo : lo ≤ hi := h1 (lo, hi) (by simp)
    rw [List.pairwise_append] at h2
    obtain ⟨p1, _, p3⟩ := h2
    by_cases e : hi + 1 = b
    · rw [addRun_adj _ _ _ _ e]
      refine ⟨⟨?_, ?_⟩, ?_, ?_⟩
      · intro r hr
        rcases List.mem_append.1 hr with hr | hr
        · exact h1 r (by simp [hr])
        · simp at hr; subst hr; show lo ≤ b; omega
      · rw [List.pairwise_append]
        exact ⟨p1, by simp, fun r hr r' hr' => by simp at hr'; subst hr'; exact p3 r hr (lo, hi) (by simp)⟩
      · rw [expand_append, expand_append, expand_one, expand_one, ← e, upTo_snoc lo hi hlo]; simp
      · intro r hr; simp at hr; subst hr; rfl
    · rw [addRun_far _ _ _ _ e]
      refine ⟨⟨?_, ?_⟩, ?_, ?_⟩
      · intro r hr
        rcases List.mem_append.1 hr with hr | hr
        · exact h1 r hr
        · simp at hr; subst hr; exact Nat.le_refl _
      · rw [List.pairwise_append]
        refine ⟨by rw [List.pairwise_append]; exact ⟨p1, by simp, p3⟩, by simp, fun r hr r' hr' => ?_⟩
        simp at hr'
        subst hr'
        rcases List.mem_append.1 hr with hr | hr
        · have := p3 r hr (lo, hi) (by simp); show r.2 + 1 < b; omega
        · simp at hr; subst hr; show hi + 1 < b; omega
      · rw [expand_append _ [(b, b)], expand_one, upTo_one]
      · intro r hr; simp at hr; subst hr; rfl
theorem runs_fold : ∀ (l : List Nat) (acc : List (Nat × Nat)), Good acc → l.Pairwise (· < ·) → (∀ r, acc.getLast? = some r → ∀ x ∈ l, r.2 < x) →
    Good (l.foldl addRun acc) ∧ expand (l.foldl addRun acc) = expand acc ++ l
  | [], acc, h, _, _ => ⟨h, by simp⟩
  | b :: l, acc, h, hs, hl => by
    rw [List.foldl_cons]
    rw [List.pairwise_cons] at hs
    obtain ⟨g1, g2, g3⟩ := addRun_good acc b h (fun r hr => hl r hr b (by simp))
    obtain ⟨k1, k2⟩ := runs_fold l (addRun acc b) g1 hs.2 (fun r hr x hx => by rw [g3 r hr]; exact hs.1 x hx)
    exact ⟨k1, by rw [k2, g2]; simp⟩
theorem runsOf_good (l : List Nat) (hs : l.Pairwise (· < ·)) : Good (runsOf l) ∧ expand (runsOf l) = l := by
  have := runs_fold l [] ⟨by simp, by simp⟩ hs (by simp)
  simpa [runsOf, expand] using this
theorem elems_sorted (s : BitVec 256) : (elems s).Pairwise (· < ·) := List.Pairwise.filter _ List.pairwise_lt_range
end Go.Proofs.YtjkhmmdjgancmaaDoor
/-! The plain mathematics of what is written: the texts of sets, of counts, of nodes, of patterns. -/
namespace Go.Proofs.YtjkhmmdjgancmaaDoor
set_option maxRecDepth 100000
open Go.RowKit

/-! the text of a set -/
def runT (r : Nat × Nat) : List Nat := r.1 :: ((if 1 < r.2 - r.1 then [45] else []) ++ (if r.1 < r.2 then [r.2] else []))
def ifT (s : BitVec 256) (b : Nat) : List Nat := if s.getLsbD b then [b] else []
def apartOf (s : BitVec 256) : BitVec 256 := if s.getLsbD 90 then setOf [93, 94, 45] else setOf [93, 94, 45] ||| setOf [91]
def coreRuns (s : BitVec 256) : List (Nat × Nat) := runsOf (elems (s &&& ~~~apartOf s))
def behindT (s : BitVec 256) : List Nat := ifT (s &&& apartOf s) 91 ++ (ifT (s &&& apartOf s) 94 ++ ifT (s &&& apartOf s) 45)
def itemsT (s : BitVec 256) : List Nat :=
  if s = setOf [45, 94] then [45, 94]
  else ifT s 93 ++ ((coreRuns s).flatMap runT ++ behindT s)
def special : List Nat := [46, 91, 93, 92, 40, 41, 42, 43, 63, 123, 125, 124, 94, 36]
def singleT (b : Nat) : List Nat := if b ∈ special then [92, b] else [b]
def namedT (l : List UInt8) : List Nat := 91 :: 91 :: 58 :: (l.map UInt8.toNat ++ [58, 93, 93])
def setT (s : BitVec 256) : List Nat :=
  if (elems s).length = 0 then []
  else if s = BitVec.allOnes 256 then [46]
  else if (elems s).length = 1 then singleT ((elems s).getD 0 0)
  else if (wholeOf s).2 then namedT (wholeOf s).1
  else if 128 < (elems s).length then 91 :: 94 :: (itemsT (~~~s) ++ [93])
  else 91 :: (itemsT s ++ [93])
/-! sets out of lists -/
theorem setOf_append (l m : List Nat) : setOf (l ++ m) = setOf l ||| setOf m := by
  apply BitVec.eq_of_getLsbD_eq
  intro b hb
  rw [BitVec.getLsbD_or, setOf_bit _ _ hb, setOf_bit _ _ hb, setOf_bit _ _ hb, Bool.eq_iff_iff]
  simp
theorem setOf_elems (s : BitVec 256) : setOf (elems s) = s := by
  apply BitVec.eq_of_getLsbD_eq
  intro b hb
  rw [setOf_bit _ _ hb, Bool.eq_iff_iff]
  simp [mem_elems, hb]
theorem setOf_nil : setOf [] = 0 := rfl
theorem zero_or (s : BitVec 256) : (0 : BitVec 256) ||| s = s := BitVec.zero_or
theorem or_setOf_nil (a : BitVec 256) : a ||| setOf [] = a := by
  rw [setOf_nil]; exact BitVec.or_zero
theorem setOf_same {l : List Nat} {s : BitVec 256} (h : ∀ b, b < 256 → (b ∈ l ↔ s.getLsbD b = true)) : setOf l = s := by
  apply BitVec.eq_of_getLsbD_eq
  intro b hb
  rw [setOf_bit _ _ hb, Bool.eq_iff_iff]
  simpa using h b hb
/-! items -/
/-- a '-' that stands here ends the bracket -/
def DashOk (q : List Nat) : Prop := ∀ r, q = 45 :: r → r.head? = some 93
/-- what may stand behind a '[' -/
def HeadOk (q : List Nat) : Prop := q.head? ≠ some 46 ∧ q.head? ≠ some 58 ∧ q.head? ≠ some 61
theorem dashOk_other {c : Nat} {q : List Nat} (h : c ≠ 45) : DashOk (c :: q) := by
  intro r e; injection e with e1 _; exact absurd e1 h
theorem range_dash (x : Nat) {q : List Nat} (h : DashOk q) : rangeOf x q = .ok (oneByte x) q := by
  cases q with
  | nil => rfl
  | cons c t =>
    by_cases hc : c = 45
    · subst hc
      have := h t rfl
      cases t with
      | nil => cases this
      | cons y t =>
        simp at this
        subst this
        simp [rangeOf]
    · exact rangeOf_other x c t hc
theorem item_plain (first : Bool) {x : Nat} {q : List Nat} (h91 : x ≠ 91) (h45 : x ≠ 45) (h : DashOk q) : item cls first x q = .ok (oneByte x) q := by
  unfold item
  rw [if_neg (fun e => h91 e.1), if_neg (fun e => h91 e.1), if_neg (fun e => h45 e.1), range_dash x h]
theorem item_open (first : Bool) {q : List Nat} (h : DashOk q) (hq : HeadOk q) : item cls first 91 q = .ok (oneByte 91) q := by
  unfold item
  rw [if_neg (fun e => e.2.elim hq.1 hq.2.2), if_neg (fun e => hq.2.1 e.2), if_neg (fun e => absurd e.1 (by decide)), range_dash 91 h]
theorem item_any (first : Bool) {x : Nat} {q : List Nat} (h45 : x ≠ 45) (h : DashOk q) (hq : x = 91 → HeadOk q) : item cls first x q = .ok (oneByte x) q := by
  by_cases h91 : x = 91
  · subst h91; exact item_open first h (hq rfl)
  · exact item_plain first h91 h45 h
theorem item_dash (first : Bool) {q : List Nat} (h : q.head? = some 93) : item cls first 45 q = .ok (oneByte 45) q := by
  unfold item
  rw [if_neg (fun e => absurd e.1 (by decide)), if_neg (fun e => absurd e.1 (by decide)), if_neg (fun e => e.2.2 h)]
  refine range_dash 45 ?_
  intro r e
  rw [e] at h
  cases h
theorem item_range (first : Bool) {x y : Nat} {q : List Nat} (h91 : x ≠ 91) (h45 : x ≠ 45) (hy : y ≠ 93) (hxy : x < y) (hq : y = 91 → HeadOk q) : item cls first x (45 :: y :: q) = .ok (setOf (upTo x y)) q := by
  unfold item
  rw [if_neg (fun e => h91 e.1), if_neg (fun e => h91 e.1), if_neg (fun e => h45 e.1)]
  show (if y = 93 then BR.ok (oneByte x) (45 :: y :: q) else if y = 91 ∧ (q.head? = some 46 ∨ q.head? = some 61) then BR.bad 3 else if y = 91 ∧ q.head? = some 58 ∨ y < x then BR.bad 2 else BR.ok (setOf (upTo x y)) q) = _
  rw [if_neg hy, if_neg (fun e => e.2.elim (hq e.1).1 (hq e.1).2.2), if_neg]
  rintro (e | e)
  · exact (hq e.1).2.1 e.2
  · omega
theorem items_step {f : Nat} {first : Bool} {acc : BitVec 256} {x : Nat} {r : List Nat} {t : BitVec 256} {q : List Nat} (h : x ≠ 93 ∨ first = true) (hi : item cls first x r = .ok t q) : items cls (f + 1) first acc (x :: r) = items cls f false (acc ||| t) q := by
  have hn : ¬ (x = 93 ∧ first = false) := by
    rintro ⟨e1, e2⟩
    rcases h with h | h
    · exact h e1
    · rw [h] at e2; cases e2
  show (if x = 93 ∧ first = false then BR.ok acc r else match item cls first x r with | .bad e => BR.bad e | .ok t rest => items cls f false (acc ||| t) rest) = _
  rw [if_neg hn, hi]
/-- what a run is, so that its item is read as it -/
def RunOk (r : Nat × Nat) : Prop := r.1 ≤ r.2 ∧ r.1 ≠ 91 ∧ (∀ b, r.1 ≤ b → b ≤ r.2 → b ≠ 45 ∧ b ≠ 93)
theorem upTo_two (b : Nat) : upTo b (b + 1) = [b, b + 1] := by rw [upTo_snoc b b (Nat.le_refl _), upTo_one]; rfl
theorem items_run {r : Nat × Nat} (hr : RunOk r) {q : List Nat} (hd : DashOk q) (hq : r.2 = 91 → HeadOk q) (f : Nat) (hf : (runT r ++ q).length < f) (first : Bool) (acc : BitVec 256) :
    ∃ f', q.length < f' ∧ items cls f first acc (runT r ++ q) = items cls f' false (acc ||| setOf (upTo r.1 r.2)) q := by
  obtain ⟨lo, hi⟩ := r
  obtain ⟨h1, h2, h3⟩ := hr
  simp only at h1 h2 h3 hq
  have hlo := h3 lo (Nat.le_refl _) h1
  have hhi := h3 hi h1 (Nat.le_refl _)
  by_cases e0 : hi = lo
  · subst e0
    have e : runT (hi, hi) = [hi] := by simp [runT]
    rw [e] at hf ⊢
    cases f with
    | zero => omega
    | succ f =>
      refine ⟨f, by simpa using hf, ?_⟩
      rw [show [hi] ++ q = hi :: q from rfl, items_step (.inl hlo.2) (item_any first hlo.1 hd hq), upTo_one]
      rfl
  · by_cases e1 : hi = lo + 1
    · subst e1
      have e : runT (lo, lo + 1) = [lo, lo + 1] := by simp [runT]
      rw [e] at hf ⊢
      match f, hf with
      | f + 2, hf =>
        refine ⟨f, by simp at hf; omega, ?_⟩
        rw [show [lo, lo + 1] ++ q = lo :: (lo + 1) :: q from rfl, items_step (.inl hlo.2) (item_any first hlo.1 (dashOk_other hhi.1) (fun e => absurd e h2)), items_step (.inl hhi.2) (item_any false hhi.1 hd hq), upTo_two, BitVec.or_assoc, ← show oneByte lo ||| oneByte (lo + 1) = setOf [lo, lo + 1] from (setOf_append [lo] [lo + 1]).symm]
      | 0, hf => omega
      | 1, hf => simp at hf
    · have e : runT (lo, hi) = [lo, 45, hi] := by unfold runT; rw [if_pos (by simp only; omega), if_pos (by simp only; omega)]; rfl
      rw [e] at hf ⊢
      cases f with
      | zero => omega
      | succ f =>
        refine ⟨f, by simp at hf; omega, ?_⟩
        rw [show [lo, 45, hi] ++ q = lo :: 45 :: hi :: q from rfl, items_step (.inl hlo.2) (item_range first h2 hlo.1 hhi.2 (by omega) hq)]
theorem runT_head (r : Nat × Nat) (q : List Nat) : ∃ t, runT r ++ q = r.1 :: t := ⟨_, rfl⟩
theorem runT_length (r : Nat × Nat) : (runT r).length ≤ 3 := by
  unfold runT; split <;> split <;> simp
theorem items_runs : ∀ (rs : List (Nat × Nat)), (∀ r ∈ rs, RunOk r) → rs.Pairwise (fun r r' => r.2 + 1 < r'.1) → ∀ {q : List Nat}, DashOk q → HeadOk q → ∀ (f : Nat), (rs.flatMap runT ++ q).length < f → ∀ (first : Bool) (acc : BitVec 256),
    ∃ f', q.length < f' ∧ items cls f first acc (rs.flatMap runT ++ q) = items cls f' (first && rs.isEmpty) (acc ||| setOf (expand rs)) q
  | [], _, _, q, _, _, f, hf, first, acc => ⟨f, by simpa using hf, by simp [expand]; rw [or_setOf_nil]⟩
  | r :: rs, hr, hp, q, hd, hq, f, hf, first, acc => by
    rw [List.pairwise_cons] at hp
    have ht : DashOk (rs.flatMap runT ++ q) ∧ (r.2 = 91 → HeadOk (rs.flatMap runT ++ q)) := by
      cases rs with
      | nil => exact ⟨hd, fun _ => hq⟩
      | cons r' rs =>
        obtain ⟨t, e⟩ := runT_head r' (rs.flatMap runT ++ q)
        have hr' := hr r' (by simp)
        have hlt := hp.1 r' (by simp)
        rw [List.flatMap_cons, List.append_assoc, e]
        refine ⟨dashOk_other (hr'.2.2 r'.1 (Nat.le_refl _) hr'.1).1, fun h => ?_⟩
        unfold HeadOk
        simp only [List.head?_cons, ne_eq, Option.some.injEq]
        omega
    rw [List.flatMap_cons, List.append_assoc] at hf ⊢
    obtain ⟨f1, hf1, e1⟩ := items_run (hr r (by simp)) ht.1 ht.2 f hf first acc
    obtain ⟨f2, hf2, e2⟩ := items_runs rs (fun r' h => hr r' (by simp [h])) hp.2 hd hq f1 hf1 false (acc ||| setOf (upTo r.1 r.2))
    refine ⟨f2, hf2, ?_⟩
    rw [e1, e2]
    simp only [Bool.false_and, List.isEmpty_cons, Bool.and_false]
    rw [BitVec.or_assoc, ← setOf_append]
    rfl
/-- what stands behind the runs -/
def tailT (a b c : Bool) : List Nat := (if a then [91] else []) ++ ((if b then [94] else []) ++ (if c then [45] else []))
theorem tail_ok (a b c : Bool) : DashOk (tailT a b c ++ [93]) ∧ HeadOk (tailT a b c ++ [93]) := by
  constructor
  · intro r e
    cases a <;> cases b <;> cases c <;> simp [tailT] at e
    subst e; rfl
  · cases a <;> cases b <;> cases c <;> simp [tailT, HeadOk]
theorem items_tail (a b c first : Bool) (hne : first = false ∨ a = true ∨ b = true ∨ c = true) (f : Nat) (hf : (tailT a b c ++ [93]).length < f) (acc : BitVec 256) : items cls f first acc (tailT a b c ++ [93]) = .ok (acc ||| setOf (tailT a b c)) [] := by
  obtain ⟨k, rfl⟩ : ∃ k, f = (tailT a b c).length + 1 + (k + 1) := ⟨f - (tailT a b c).length - 2, by simp at hf; omega⟩
  have fin : ∀ (n : Nat) (s : BitVec 256), items cls (n + 1) false s [93] = .ok s [] := fun n s => by rw [items, if_pos ⟨rfl, rfl⟩]
  have d93 : DashOk [93] := dashOk_other (by decide)
  have d45 : DashOk [45, 93] := fun r e => by injection e with _ e; rw [← e]; rfl
  have hk : ∀ l : List Nat, HeadOk (94 :: l) ∧ HeadOk (45 :: l) ∧ HeadOk (93 :: l) := fun l => by simp [HeadOk]
  have or2 : ∀ x y : Nat, oneByte x ||| oneByte y = setOf [x, y] := fun x y => (setOf_append [x] [y]).symm
  have or3 : ∀ x y z : Nat, oneByte x ||| (oneByte y ||| oneByte z) = setOf [x, y, z] := fun x y z => by rw [or2]; exact (setOf_append [x] [y, z]).symm
  cases a <;> cases b <;> cases c
  · obtain rfl : first = false := by simpa using hne
    show items cls _ false acc [93] = .ok (acc ||| setOf []) []
    rw [or_setOf_nil]; exact fin _ _
  · show items cls (2 + k + 1) first acc [45, 93] = .ok (acc ||| setOf [45]) []
    rw [show 2 + k + 1 = (k + 1 + 1) + 1 from by omega, items_step (.inl (by decide)) (item_dash first rfl), fin]; rfl
  · show items cls _ first acc [94, 93] = .ok (acc ||| setOf [94]) []
    rw [show (tailT false true false).length + 1 + (k + 1) = (k + 1 + 1) + 1 from by simp [tailT]; omega, items_step (.inl (by decide)) (item_plain first (by decide) (by decide) d93), fin]; rfl
  · show items cls _ first acc [94, 45, 93] = .ok (acc ||| setOf [94, 45]) []
    rw [show (tailT false true true).length + 1 + (k + 1) = (k + 1 + 1) + 1 + 1 from by simp [tailT]; omega, items_step (.inl (by decide)) (item_plain first (by decide) (by decide) d45), items_step (.inl (by decide)) (item_dash false rfl), fin, BitVec.or_assoc, or2]
  · show items cls _ first acc [91, 93] = .ok (acc ||| setOf [91]) []
    rw [show (tailT true false false).length + 1 + (k + 1) = (k + 1 + 1) + 1 from by simp [tailT]; omega, items_step (.inl (by decide)) (item_open first d93 (hk _).2.2), fin]; rfl
  · show items cls _ first acc [91, 45, 93] = .ok (acc ||| setOf [91, 45]) []
    rw [show (tailT true false true).length + 1 + (k + 1) = (k + 1 + 1) + 1 + 1 from by simp [tailT]; omega, items_step (.inl (by decide)) (item_open first d45 (hk _).2.1), items_step (.inl (by decide)) (item_dash false rfl), fin, BitVec.or_assoc, or2]
  · show items cls _ first acc [91, 94, 93] = .ok (acc ||| setOf [91, 94]) []
    rw [show (tailT true true false).length + 1 + (k + 1) = (k + 1 + 1) + 1 + 1 from by simp [tailT]; omega, items_step (.inl (by decide)) (item_open first (dashOk_other (by decide)) (hk _).1), items_step (.inl (by decide)) (item_plain false (by decide) (by decide) d93), fin, BitVec.or_assoc, or2]
  · show items cls _ first acc [91, 94, 45, 93] = .ok (acc ||| setOf [91, 94, 45]) []
    rw [show (tailT true true true).length + 1 + (k + 1) = (k + 1 + 1) + 1 + 1 + 1 from by simp [tailT]; omega, items_step (.inl (by decide)) (item_open first (dashOk_other (by decide)) (hk _).1), items_step (.inl (by decide)) (item_plain false (by decide) (by decide) d45), items_step (.inl (by decide)) (item_dash false rfl), fin, BitVec.or_assoc, BitVec.or_assoc, or3]
/-! the items of a set -/
theorem apart_bit (s : BitVec 256) (b : Nat) (hb : b < 256) : (apartOf s).getLsbD b = (b == 93 || b == 94 || b == 45 || (b == 91 && !s.getLsbD 90)) := by
  unfold apartOf
  cases h : s.getLsbD 90
  · rw [if_neg (by simp), BitVec.getLsbD_or, setOf_bit _ _ hb, setOf_bit _ _ hb, Bool.eq_iff_iff]
    simp [or_assoc]
  · rw [if_pos rfl, setOf_bit _ _ hb, Bool.eq_iff_iff]
    simp [or_assoc]
theorem core_bit (s : BitVec 256) (b : Nat) (hb : b < 256) : (s &&& ~~~apartOf s).getLsbD b = (s.getLsbD b && !(b == 93 || b == 94 || b == 45 || (b == 91 && !s.getLsbD 90))) := by
  rw [BitVec.getLsbD_and, BitVec.getLsbD_not, apart_bit s b hb, decide_eq_true hb, Bool.true_and]
theorem core_runs (s : BitVec 256) : (∀ r ∈ coreRuns s, RunOk r) ∧ (coreRuns s).Pairwise (fun r r' => r.2 + 1 < r'.1) ∧ expand (coreRuns s) = elems (s &&& ~~~apartOf s) := by
  obtain ⟨⟨g1, g2⟩, g3⟩ := runsOf_good (elems (s &&& ~~~apartOf s)) (elems_sorted _)
  refine ⟨fun r hr => ?_, g2, g3⟩
  change r ∈ runsOf (elems (s &&& ~~~apartOf s)) at hr
  have hin : ∀ b, r.1 ≤ b → b ≤ r.2 → b ∈ elems (s &&& ~~~apartOf s) := fun b h1 h2 => by
    rw [← g3]
    exact List.mem_flatMap.2 ⟨r, hr, (upTo_mem _ _ _).2 ⟨h1, h2⟩⟩
  have hbit : ∀ b, r.1 ≤ b → b ≤ r.2 → b < 256 ∧ s.getLsbD b = true ∧ b ≠ 93 ∧ b ≠ 94 ∧ b ≠ 45 ∧ (b = 91 → s.getLsbD 90 = true) := fun b h1 h2 => by
    obtain ⟨hb, h⟩ := (mem_elems _ _).1 (hin b h1 h2)
    rw [core_bit s b hb] at h
    simp only [Bool.and_eq_true, Bool.not_eq_true', Bool.or_eq_false_iff, beq_eq_false_iff_ne, Bool.and_eq_false_iff, Bool.not_eq_false', ne_eq] at h
    obtain ⟨h0, ⟨⟨k1, k2⟩, k3⟩, k4⟩ := h
    exact ⟨hb, h0, k1, k2, k3, fun e => k4.resolve_left (fun n => n e)⟩
  refine ⟨g1 r hr, ?_, fun b h1 h2 => ⟨(hbit b h1 h2).2.2.2.2.1, (hbit b h1 h2).2.2.1⟩⟩
  intro h91
  have h90 := (hbit r.1 (Nat.le_refl _) (g1 r hr)).2.2.2.2.2 h91
  have hmem : 90 ∈ elems (s &&& ~~~apartOf s) := by
    rw [mem_elems, core_bit s 90 (by decide), h90]
    exact ⟨by decide, by decide⟩
  rw [← g3] at hmem
  obtain ⟨r', hr', hm⟩ := List.mem_flatMap.1 hmem
  rw [upTo_mem] at hm
  obtain ⟨i, hi, rfl⟩ := List.getElem_of_mem hr
  obtain ⟨j, hj, rfl⟩ := List.getElem_of_mem hr'
  have hpw := List.pairwise_iff_getElem.1 g2
  rcases Nat.lt_trichotomy i j with hij | rfl | hij
  · have := hpw i j hi hj hij
    have := g1 _ hr
    omega
  · omega
  · have := hpw j i hj hi hij
    omega
theorem behind_tail (s : BitVec 256) : behindT s = tailT (s.getLsbD 91 && !s.getLsbD 90) (s.getLsbD 94) (s.getLsbD 45) := by
  unfold behindT ifT tailT
  rw [BitVec.getLsbD_and, BitVec.getLsbD_and, BitVec.getLsbD_and, apart_bit s 91 (by decide), apart_bit s 94 (by decide), apart_bit s 45 (by decide)]
  simp
/-- the elements, in the order in which they are written -/
theorem items_set (s : BitVec 256) : setOf (ifT s 93 ++ (expand (coreRuns s) ++ behindT s)) = s := by
  refine setOf_same fun b hb => ?_
  rw [(core_runs s).2.2, behind_tail, List.mem_append, List.mem_append, mem_elems, core_bit s b hb]
  unfold ifT tailT
  by_cases h93 : b = 93
  · subst h93; cases s.getLsbD 93 <;> cases s.getLsbD 91 <;> cases s.getLsbD 90 <;> cases s.getLsbD 94 <;> cases s.getLsbD 45 <;> simp
  by_cases h94 : b = 94
  · subst h94; cases s.getLsbD 93 <;> cases s.getLsbD 91 <;> cases s.getLsbD 90 <;> cases s.getLsbD 94 <;> cases s.getLsbD 45 <;> simp
  by_cases h45 : b = 45
  · subst h45; cases s.getLsbD 93 <;> cases s.getLsbD 91 <;> cases s.getLsbD 90 <;> cases s.getLsbD 94 <;> cases s.getLsbD 45 <;> simp
  by_cases h91 : b = 91
  · subst h91; cases s.getLsbD 93 <;> cases s.getLsbD 91 <;> cases s.getLsbD 90 <;> cases s.getLsbD 94 <;> cases s.getLsbD 45 <;> simp
  · cases s.getLsbD 93 <;> cases s.getLsbD 91 <;> cases s.getLsbD 90 <;> cases s.getLsbD 94 <;> cases s.getLsbD 45 <;> simp [h93, h94, h45, h91, hb]
/-- read as they were -/
theorem items_back (s : BitVec 256) (h0 : s ≠ 0) (f : Nat) (hf : (itemsT s ++ [93]).length < f) : items cls f true 0 (itemsT s ++ [93]) = .ok s [] := by
  by_cases hsp : s = setOf [45, 94]
  · have e : itemsT s = [45, 94] := by unfold itemsT; rw [if_pos hsp]
    rw [e] at hf ⊢
    match f, hf with
    | f + 3, _ =>
      show items cls (f + 3) true 0 [45, 94, 93] = _
      rw [items_step (.inl (by decide)) (show item cls true 45 [94, 93] = .ok (oneByte 45) [94, 93] from rfl), items_step (.inl (by decide)) (show item cls false 94 [93] = .ok (oneByte 94) [93] from rfl), items, if_pos ⟨rfl, rfl⟩, hsp]
      rfl
    | 0, h => simp at h
    | 1, h => simp at h
    | 2, h => simp at h
  have e : itemsT s = ifT s 93 ++ ((coreRuns s).flatMap runT ++ behindT s) := by unfold itemsT; rw [if_neg hsp]
  obtain ⟨g1, g2, g3⟩ := core_runs s
  have hset := items_set s
  rw [e] at hf ⊢
  rw [behind_tail] at hf hset ⊢
  generalize hA : (s.getLsbD 91 && !s.getLsbD 90) = A at hf hset ⊢
  generalize hB : s.getLsbD 94 = B at hf hset ⊢
  generalize hC : s.getLsbD 45 = C at hf hset ⊢
  obtain ⟨td, th⟩ := tail_ok A B C
  have main : ∀ (f : Nat) (first : Bool) (acc : BitVec 256), ((coreRuns s).flatMap runT ++ (tailT A B C ++ [93])).length < f → (first = false ∨ coreRuns s ≠ [] ∨ A = true ∨ B = true ∨ C = true) →
      items cls f first acc ((coreRuns s).flatMap runT ++ (tailT A B C ++ [93])) = .ok (acc ||| (setOf (expand (coreRuns s)) ||| setOf (tailT A B C))) [] := by
    intro f first acc hf hne
    obtain ⟨f1, hf1, e1⟩ := items_runs _ g1 g2 td th f hf first acc
    rw [e1, items_tail A B C _ ?_ f1 hf1, BitVec.or_assoc]
    rcases hne with h | h | h
    · left; rw [h]; rfl
    · left
      cases hc : coreRuns s with
      | nil => exact absurd hc h
      | cons r rs => simp
    · exact .inr h
  have dk : DashOk ((coreRuns s).flatMap runT ++ (tailT A B C ++ [93])) := by
    cases hc : coreRuns s with
    | nil => exact td
    | cons r rs =>
      obtain ⟨t, et⟩ := runT_head r (rs.flatMap runT ++ (tailT A B C ++ [93]))
      rw [List.flatMap_cons, List.append_assoc, et]
      have hr := g1 r (by rw [hc]; simp)
      exact dashOk_other (hr.2.2 r.1 (Nat.le_refl _) hr.1).1
  rw [List.append_assoc, List.append_assoc] at hf ⊢
  cases h93 : s.getLsbD 93
  · have ei : ifT s 93 = [] := by unfold ifT; rw [h93]; rfl
    rw [ei] at hf hset ⊢
    rw [List.nil_append] at hf hset ⊢
    rw [main f true 0 hf ?_]
    · rw [← setOf_append, hset, zero_or]
    · by_cases hc : coreRuns s = []
      · cases A
        · cases B
          · cases C
            · rw [hc] at hset
              exact absurd hset.symm h0
            · simp
          · simp
        · simp
      · exact .inr (.inl hc)
  · have ei : ifT s 93 = [93] := by unfold ifT; rw [h93]; rfl
    rw [ei] at hf hset ⊢
    cases f with
    | zero => omega
    | succ f =>
      rw [show [93] ++ ((coreRuns s).flatMap runT ++ (tailT A B C ++ [93])) = 93 :: ((coreRuns s).flatMap runT ++ (tailT A B C ++ [93])) from rfl, items_step (.inr rfl) (item_plain true (by decide) (by decide) dk), main f false _ (by simp at hf ⊢; omega) (.inl rfl)]
      rw [zero_or, ← setOf_append, show oneByte 93 = setOf [93] from rfl, ← setOf_append, hset]
end Go.Proofs.YtjkhmmdjgancmaaDoor
/-! What is written is cut and read as what it was: sets, counts, nodes, patterns. -/
namespace Go.Proofs.YtjkhmmdjgancmaaDoor
set_option maxRecDepth 100000
open Go.RowKit

/-! a set's text is one token -/
theorem items_head (s : BitVec 256) (h2 : 2 ≤ (elems s).length) : (itemsT s ++ [93]).head? ≠ some 94 := by
  by_cases hsp : s = setOf [45, 94]
  · unfold itemsT; rw [if_pos hsp]; decide
  have e : itemsT s = ifT s 93 ++ ((coreRuns s).flatMap runT ++ behindT s) := by unfold itemsT; rw [if_neg hsp]
  have hset := items_set s
  rw [e]
  cases h93 : s.getLsbD 93
  · have ei : ifT s 93 = [] := by unfold ifT; rw [h93]; rfl
    rw [ei] at hset ⊢
    cases hc : coreRuns s with
    | nil =>
      rw [hc, behind_tail] at hset
      rw [behind_tail]
      cases hA : (s.getLsbD 91 && !s.getLsbD 90)
      · rw [hA] at hset
        cases hB : s.getLsbD 94
        · cases hC : s.getLsbD 45 <;> simp [tailT]
        · rw [hB] at hset
          cases hC : s.getLsbD 45
          · rw [hC] at hset
            have hs : s = setOf [94] := hset.symm
            rw [hs] at h2
            exact absurd h2 (by decide +kernel)
          · rw [hC] at hset
            exact absurd (hset.symm.trans (show setOf [94, 45] = setOf [45, 94] by decide +kernel)) hsp
      · cases hB : s.getLsbD 94 <;> cases hC : s.getLsbD 45 <;> simp [tailT]
    | cons r rs =>
      have hm : r.1 ∈ elems (s &&& ~~~apartOf s) := by
        rw [← (core_runs s).2.2, hc]
        exact List.mem_flatMap.2 ⟨r, by simp, (upTo_mem _ _ _).2 ⟨Nat.le_refl _, ((core_runs s).1 r (by rw [hc]; simp)).1⟩⟩
      obtain ⟨hb, hm⟩ := (mem_elems _ _).1 hm
      rw [core_bit s _ hb] at hm
      obtain ⟨t, et⟩ := runT_head r (rs.flatMap runT ++ (behindT s ++ [93]))
      simp only [List.nil_append, List.flatMap_cons, List.append_assoc]
      rw [et]
      intro h
      have h : r.1 = 94 := by simpa using h
      rw [h] at hm
      simp at hm
  · have ei : ifT s 93 = [93] := by unfold ifT; rw [h93]; rfl
    rw [ei]
    simp
theorem bracket_pos (s : BitVec 256) (h0 : s ≠ 0) (hh : (itemsT s ++ [93]).head? ≠ some 94) : bracket cls (itemsT s ++ [93]) = .ok s [] := by
  unfold bracket
  rw [if_neg hh, items_back s h0 _ (by omega)]
  simp only
  rw [if_neg hh, if_neg h0]
theorem bracket_neg (s : BitVec 256) (h0 : s ≠ 0) (h1 : ~~~s ≠ 0) : bracket cls (94 :: (itemsT (~~~s) ++ [93])) = .ok s [] := by
  have hh : (94 :: (itemsT (~~~s) ++ [93])).head? = some 94 := rfl
  unfold bracket
  rw [if_pos hh, show (94 :: (itemsT (~~~s) ++ [93])).tail = itemsT (~~~s) ++ [93] from rfl, items_back (~~~s) h1 _ (by simp only [List.length_cons]; omega)]
  simp only
  rw [if_pos hh, BitVec.not_not, if_neg h0]
def okNamed (l : List UInt8) : Bool := match tokOf cls 91 (91 :: 58 :: (l.map UInt8.toNat ++ [58, 93, 93])) with
  | .ok t rest => t.kind == 1 && decide (t.set = (classOf l).1) && t.lo == 0 && t.hi == 0 && rest.isEmpty
  | .bad _ => false
theorem named_all : nameBytes.all okNamed = true := by decide +kernel
theorem tok_named {l : List UInt8} (h : l ∈ nameBytes) : tokOf cls 91 (91 :: 58 :: (l.map UInt8.toNat ++ [58, 93, 93])) = .ok ⟨1, (classOf l).1, 0, 0⟩ [] := by
  have hk := List.all_eq_true.1 named_all l h
  unfold okNamed at hk
  cases ht : tokOf cls 91 (91 :: 58 :: (l.map UInt8.toNat ++ [58, 93, 93])) with
  | bad e => rw [ht] at hk; cases hk
  | ok t rest =>
    rw [ht] at hk
    simp only [Bool.and_eq_true, beq_iff_eq, decide_eq_true_eq, List.isEmpty_iff] at hk
    obtain ⟨⟨⟨⟨k1, k2⟩, k3⟩, k4⟩, k5⟩ := hk
    obtain ⟨a, b, c, d⟩ := t
    simp only at k1 k2 k3 k4
    rw [k1, k2, k3, k4, k5]
theorem tok_plain (c : Nat) (h : ¬ c ∈ special) : tokOf cls c [] = .ok ⟨1, oneByte c, 0, 0⟩ [] := by
  have hn : ∀ x ∈ special, c ≠ x := fun x hx e => h (by rw [e]; exact hx)
  unfold tokOf
  rw [if_neg (hn 42 (by decide)), if_neg (hn 43 (by decide)), if_neg (hn 63 (by decide)), if_neg (hn 123 (by decide)), if_neg (hn 40 (by decide)), if_neg (hn 41 (by decide)), if_neg (hn 124 (by decide)), if_neg (hn 94 (by decide)), if_neg (hn 36 (by decide)), if_neg (hn 46 (by decide)), if_neg (hn 92 (by decide)), if_neg (hn 91 (by decide))]
theorem special_sub : ∀ c ∈ special, c ∈ specials := by decide
theorem tok_esc (c : Nat) (h : c ∈ special) : tokOf cls 92 [c] = .ok ⟨1, oneByte c, 0, 0⟩ [] := by
  show (if c ∈ specials then TR.ok ⟨1, oneByte c, 0, 0⟩ [] else if 49 ≤ c ∧ c ≤ 57 then TR.bad 3 else TR.bad 2) = _
  rw [if_pos (special_sub c h)]
/-- the text of a set that holds a byte: a token that is it -/
theorem tok_set (s : BitVec 256) (h0 : s ≠ 0) : ∃ x r, setT s = x :: r ∧ x ≠ 40 ∧ x ≠ 63 ∧ tokOf cls x r = .ok ⟨1, s, 0, 0⟩ [] := by
  have hlen : (elems s).length ≠ 0 := by
    intro h
    have h := List.length_eq_zero_iff.1 h
    exact h0 (by rw [← setOf_elems s, h]; rfl)
  unfold setT
  rw [if_neg hlen]
  by_cases hall : s = BitVec.allOnes 256
  · rw [if_pos hall]
    exact ⟨46, [], rfl, by decide, by decide, by rw [hall]; rfl⟩
  rw [if_neg hall]
  by_cases h1 : (elems s).length = 1
  · rw [if_pos h1]
    obtain ⟨b, hb⟩ := List.length_eq_one_iff.1 h1
    have hs : s = oneByte b := by rw [← setOf_elems s, hb]; rfl
    rw [hb, show [b].getD 0 0 = b from rfl, hs]
    unfold singleT
    by_cases hsp : b ∈ special
    · rw [if_pos hsp]; exact ⟨92, [b], rfl, by decide, by decide, tok_esc b hsp⟩
    · rw [if_neg hsp]
      exact ⟨b, [], rfl, fun e => hsp (by rw [e]; decide), fun e => hsp (by rw [e]; decide), tok_plain b hsp⟩
  rw [if_neg h1]
  by_cases hw : (wholeOf s).2 = true
  · rw [if_pos hw]
    unfold wholeOf at hw ⊢
    split at hw
    · rename_i l hl
      have hm := List.mem_of_find?_eq_some hl
      have hp : (classOf l).1 = s := by simpa using List.find?_some hl
      refine ⟨91, _, rfl, by decide, by decide, ?_⟩
      rw [tok_named hm, hp]
    · cases hw
  rw [if_neg hw]
  have h2 : 2 ≤ (elems s).length := by omega
  by_cases h128 : 128 < (elems s).length
  · rw [if_pos h128]
    refine ⟨91, _, rfl, by decide, by decide, ?_⟩
    have hn : ~~~s ≠ 0 := by
      intro h
      exact hall (by rw [← BitVec.not_not (b := s), h]; rfl)
    show ofBR (bracket cls _) = _
    rw [bracket_neg s h0 hn]; rfl
  · rw [if_neg h128]
    refine ⟨91, _, rfl, by decide, by decide, ?_⟩
    show ofBR (bracket cls _) = _
    rw [bracket_pos s h0 (items_head s h2)]; rfl
/-! counts -/
def boundsT (lo hi : Int) : List Nat :=
  if lo = 0 ∧ hi = -1 then [42]
  else if lo = 1 ∧ hi = -1 then [43]
  else if lo = 0 ∧ hi = 1 then [63]
  else if hi = -1 then 123 :: (numText lo.toNat ++ [44, 125])
  else if lo = hi then 123 :: (numText lo.toNat ++ [125])
  else 123 :: (numText lo.toNat ++ 44 :: (numText hi.toNat ++ [125]))
def BoundsOk (lo hi : Int) : Prop := 0 ≤ lo ∧ lo ≤ 255 ∧ (hi = -1 ∨ lo ≤ hi ∧ hi ≤ 255)
theorem tok_bounds {lo hi : Int} (h : BoundsOk lo hi) : ∃ x r, boundsT lo hi = x :: r ∧ x ≠ 40 ∧ tokOf cls x r = .ok ⟨6, 0, lo, hi⟩ [] := by
  obtain ⟨h0, h1, h2⟩ := h
  obtain ⟨m, rfl⟩ := Int.eq_ofNat_of_zero_le h0
  have h1' : ¬ 255 < m := by omega
  unfold boundsT
  by_cases c1 : (m : Int) = 0 ∧ hi = -1
  · rw [if_pos c1, c1.1, c1.2]; exact ⟨42, [], rfl, by decide, rfl⟩
  rw [if_neg c1]
  by_cases c2 : (m : Int) = 1 ∧ hi = -1
  · rw [if_pos c2, c2.1, c2.2]; exact ⟨43, [], rfl, by decide, rfl⟩
  rw [if_neg c2]
  by_cases c3 : (m : Int) = 0 ∧ hi = 1
  · rw [if_pos c3, c3.1, c3.2]; exact ⟨63, [], rfl, by decide, rfl⟩
  rw [if_neg c3]
  by_cases c4 : hi = -1
  · rw [if_pos c4]
    refine ⟨123, _, rfl, by decide, ?_⟩
    show often (numText m ++ [44, 125]) = _
    rw [often_from, if_neg h1', c4]
  rw [if_neg c4]
  have h3 := h2.resolve_left c4
  obtain ⟨n, rfl⟩ := Int.eq_ofNat_of_zero_le (show 0 ≤ hi by omega)
  by_cases c5 : (m : Int) = n
  · rw [if_pos c5]
    refine ⟨123, _, rfl, by decide, ?_⟩
    show often (numText m ++ [125]) = _
    rw [often_one, if_neg h1', c5]
  rw [if_neg c5]
  refine ⟨123, _, rfl, by decide, ?_⟩
  show often (numText m ++ 44 :: (numText n ++ [125])) = _
  rw [often_two, if_neg h1', if_neg (by omega), if_neg (by omega)]
/-! nodes: their texts, their tokens -/
mutual
def Nd.txt : Nd → List Nat
  | .mk k s lo hi _ l =>
    if k = 1 then setT s
    else if k = 3 then txts [124] l
    else if k = 4 then txts [] l ++ boundsT lo hi
    else if k = 5 then 40 :: (txts [] l ++ [41])
    else if k = 6 then 40 :: 63 :: 58 :: (txts [] l ++ [41])
    else txts [] l
def txts (sep : List Nat) : List Nd → List Nat
  | [] => []
  | x :: l => x.txt ++ txtsMore sep l
def txtsMore (sep : List Nat) : List Nd → List Nat
  | [] => []
  | x :: l => sep ++ (x.txt ++ txtsMore sep l)
end
mutual
def Nd.toks : Nd → List Tok
  | .mk k s lo hi _ l =>
    if k = 1 then [⟨1, s, 0, 0⟩]
    else if k = 3 then toksBy [⟨5, 0, 0, 0⟩] l
    else if k = 4 then toksBy [] l ++ [⟨6, 0, lo, hi⟩]
    else if k = 5 then ⟨2, 0, 0, 0⟩ :: (toksBy [] l ++ [⟨4, 0, 0, 0⟩])
    else if k = 6 then ⟨3, 0, 0, 0⟩ :: (toksBy [] l ++ [⟨4, 0, 0, 0⟩])
    else toksBy [] l
def toksBy (sep : List Tok) : List Nd → List Tok
  | [] => []
  | x :: l => x.toks ++ toksMore sep l
def toksMore (sep : List Tok) : List Nd → List Tok
  | [] => []
  | x :: l => sep ++ (x.toks ++ toksMore sep l)
end
theorem txt_mk (k : Int) (s : BitVec 256) (lo hi n : Int) (l : List Nd) : (Nd.mk k s lo hi n l).txt = if k = 1 then setT s
    else if k = 3 then txts [124] l
    else if k = 4 then txts [] l ++ boundsT lo hi
    else if k = 5 then 40 :: (txts [] l ++ [41])
    else if k = 6 then 40 :: 63 :: 58 :: (txts [] l ++ [41])
    else txts [] l := by rw [Nd.txt]
theorem toks_mk (k : Int) (s : BitVec 256) (lo hi n : Int) (l : List Nd) : (Nd.mk k s lo hi n l).toks = if k = 1 then [⟨1, s, 0, 0⟩]
    else if k = 3 then toksBy [⟨5, 0, 0, 0⟩] l
    else if k = 4 then toksBy [] l ++ [⟨6, 0, lo, hi⟩]
    else if k = 5 then ⟨2, 0, 0, 0⟩ :: (toksBy [] l ++ [⟨4, 0, 0, 0⟩])
    else if k = 6 then ⟨3, 0, 0, 0⟩ :: (toksBy [] l ++ [⟨4, 0, 0, 0⟩])
    else toksBy [] l := by rw [Nd.toks]
theorem txts_nil (sep : List Nat) : txts sep [] = [] := by rw [txts]
theorem txts_cons (sep : List Nat) (x : Nd) (l : List Nd) : txts sep (x :: l) = x.txt ++ txtsMore sep l := by rw [txts]
theorem more_nil (sep : List Nat) : txtsMore sep [] = [] := by rw [txtsMore]
theorem more_cons (sep : List Nat) (x : Nd) (l : List Nd) : txtsMore sep (x :: l) = sep ++ (x.txt ++ txtsMore sep l) := by rw [txtsMore]
theorem toksBy_nil (sep : List Tok) : toksBy sep [] = [] := by rw [toksBy]
theorem toksBy_cons (sep : List Tok) (x : Nd) (l : List Nd) : toksBy sep (x :: l) = x.toks ++ toksMore sep l := by rw [toksBy]
theorem toksMore_nil (sep : List Tok) : toksMore sep [] = [] := by rw [toksMore]
theorem toksMore_cons (sep : List Tok) (x : Nd) (l : List Nd) : toksMore sep (x :: l) = sep ++ (x.toks ++ toksMore sep l) := by rw [toksMore]
theorem toksMore_none : ∀ l : List Nd, toksMore [] l = toksBy [] l
  | [] => by rw [toksMore_nil, toksBy_nil]
  | x :: l => by rw [toksMore_cons, toksBy_cons]; rfl
/-! cut -/
/-- whatever stands behind the text, it is cut into these tokens -/
def Cuts (q : List Nat) (T : List Tok) : Prop := ∀ (b : List Nat) (f at_ : Nat), (q ++ b).length < f → ∃ P : List TK, P.map (·.1) = T ∧
  cutFrom cls f at_ (q ++ b) = ((cutFrom cls (b.length + 1) (at_ + q.length) b).1, P ++ (cutFrom cls (b.length + 1) (at_ + q.length) b).2)
theorem cuts_nil : Cuts [] [] := fun b f at_ hf => ⟨[], rfl, by
  rw [List.nil_append, cut_fuel cls f (b.length + 1) at_ b (by simpa using hf) (by omega)]; rfl⟩
theorem Cuts.append {q q' : List Nat} {T T' : List Tok} (h : Cuts q T) (h' : Cuts q' T') : Cuts (q ++ q') (T ++ T') := by
  intro b f at_ hf
  obtain ⟨P, hP, e⟩ := h (q' ++ b) f at_ (by rw [List.append_assoc] at hf; exact hf)
  obtain ⟨P', hP', e'⟩ := h' b ((q' ++ b).length + 1) (at_ + q.length) (by omega)
  refine ⟨P ++ P', by rw [List.map_append, hP, hP'], ?_⟩
  rw [List.append_assoc, e, e', List.length_append, Nat.add_assoc, List.append_assoc]
theorem cuts_one {x : Nat} {r : List Nat} {t : Tok} (h : ∀ b, tokOf cls x (r ++ b) = .ok t b) : Cuts (x :: r) [t] := by
  intro b f at_ hf
  cases f with
  | zero => omega
  | succ f =>
    refine ⟨[(t, at_)], rfl, ?_⟩
    rw [List.cons_append, cut_step (h b)]
    rw [cut_fuel cls f (b.length + 1) _ b (by simp at hf; omega) (by omega), show at_ + ((r ++ b).length + 1 - b.length) = at_ + (x :: r).length from by simp; omega]
    rfl
theorem cuts_tok {x : Nat} {r : List Nat} {t : Tok} (h : tokOf cls x r = .ok t []) (h40 : x ≠ 40) : Cuts (x :: r) [t] :=
  cuts_one fun b => by
    have := tokOf_append b cls x r t [] h (fun e => absurd e h40)
    rwa [List.nil_append] at this
/-- a text that begins with something else than a '?' -/
def Begins (q : List Nat) : Prop := ∃ c r, q = c :: r ∧ c ≠ 63
theorem Begins.append {q : List Nat} (h : Begins q) (b : List Nat) : Begins (q ++ b) := by
  obtain ⟨c, r, rfl, hc⟩ := h
  exact ⟨c, r ++ b, rfl, hc⟩
theorem cuts_open {q : List Nat} {T : List Tok} (hb : Begins q) (h : Cuts q T) : Cuts (40 :: q) (⟨2, 0, 0, 0⟩ :: T) := by
  intro b f at_ hf
  cases f with
  | zero => omega
  | succ f =>
    obtain ⟨c, r, rfl, hc⟩ := hb
    have ht : tokOf cls 40 (c :: r ++ b) = .ok ⟨2, 0, 0, 0⟩ (c :: r ++ b) := by
      show (match c :: (r ++ b) with | 63 :: 58 :: r2 => TR.ok ⟨3, 0, 0, 0⟩ r2 | _ => TR.ok ⟨2, 0, 0, 0⟩ (c :: (r ++ b))) = _
      split
      · rename_i he; injection he with e1 _; exact absurd e1 hc
      · rfl
    obtain ⟨P, hP, e⟩ := h b f (at_ + 1) (by simp at hf ⊢; omega)
    refine ⟨(⟨2, 0, 0, 0⟩, at_) :: P, by rw [List.map_cons, hP], ?_⟩
    rw [List.cons_append, cut_step ht, show at_ + ((c :: r ++ b).length + 1 - (c :: r ++ b).length) = at_ + 1 from by omega, e]
    rw [show at_ + 1 + (c :: r).length = at_ + (40 :: c :: r).length from by simp; omega]
    rfl
theorem cuts_bracket {q : List Nat} {T : List Tok} (h : Cuts q T) : Cuts (40 :: 63 :: 58 :: q) (⟨3, 0, 0, 0⟩ :: T) :=
  (cuts_one (x := 40) (r := [63, 58]) (t := ⟨3, 0, 0, 0⟩) fun _ => rfl).append h
theorem cuts_close : Cuts [41] [⟨4, 0, 0, 0⟩] := cuts_one fun _ => rfl
theorem cuts_bar : Cuts [124] [⟨5, 0, 0, 0⟩] := cuts_one fun _ => rfl
/-! what a valid node's fields are -/
theorem form_fields {k : Int} {s : BitVec 256} {lo hi n : Int} {l : List Nd} {next m : Nat} (h : (Nd.mk k s lo hi n l).form next = some m) :
    fieldsOk k s lo hi n l.length next = true ∧ forms k l (if k = 5 then next + 1 else next) = some m := by
  rw [form_mk] at h
  split at h
  · rename_i hf; exact ⟨hf, h⟩
  · cases h
theorem forms_step {k : Int} {x : Nd} {l : List Nd} {next m : Nat} (h : forms k (x :: l) next = some m) : within k x.kind = true ∧ ∃ m1, x.form next = some m1 ∧ forms k l m1 = some m := by
  rw [forms_cons] at h
  split at h
  · rename_i hw
    rw [Option.bind_eq_some_iff] at h
    exact ⟨hw, h⟩
  · cases h
/-- which kinds there are, and what goes with each -/
theorem fields_cases {k : Int} {s : BitVec 256} {lo hi n : Int} {len next : Nat} (h : fieldsOk k s lo hi n len next = true) :
    (k = 1 ∧ s ≠ 0 ∧ lo = 0 ∧ hi = 0 ∧ n = 0 ∧ len = 0) ∨ (k = 2 ∧ s = 0 ∧ lo = 0 ∧ hi = 0 ∧ n = 0 ∧ 2 ≤ len) ∨ (k = 3 ∧ s = 0 ∧ lo = 0 ∧ hi = 0 ∧ n = 0 ∧ 2 ≤ len) ∨
    (k = 4 ∧ s = 0 ∧ n = 0 ∧ BoundsOk lo hi ∧ len = 1) ∨ (k = 5 ∧ s = 0 ∧ lo = 0 ∧ hi = 0 ∧ n = (next : Int) ∧ len = 1) ∨ (k = 6 ∧ s = 0 ∧ lo = 0 ∧ hi = 0 ∧ n = 0 ∧ len = 1) := by
  unfold fieldsOk at h
  simp only [Bool.and_eq_true, Bool.or_eq_true, beq_iff_eq, decide_eq_true_eq] at h
  obtain ⟨⟨⟨h1, h2⟩, h3⟩, h4⟩ := h
  by_cases k1 : k = 1
  · rw [if_pos k1] at h4
    simp only [Bool.and_eq_true, decide_eq_true_eq] at h4
    have h2 := h2.resolve_left (by omega)
    have h3 := h3.resolve_left (by omega)
    exact .inl ⟨k1, h4.1, h2.1, h2.2, h3, h4.2⟩
  rw [if_neg k1] at h4
  have h1 := h1.resolve_left k1
  by_cases k2 : k = 2 ∨ k = 3
  · rw [if_pos k2] at h4
    have h2 := h2.resolve_left (by omega)
    have h3 := h3.resolve_left (by omega)
    have h4 : 2 ≤ len := by simpa using h4
    rcases k2 with k2 | k2
    · exact .inr (.inl ⟨k2, h1, h2.1, h2.2, h3, h4⟩)
    · exact .inr (.inr (.inl ⟨k2, h1, h2.1, h2.2, h3, h4⟩))
  rw [if_neg k2] at h4
  by_cases k4 : k = 4
  · rw [if_pos k4] at h4
    simp only [Bool.and_eq_true, Bool.or_eq_true, beq_iff_eq, decide_eq_true_eq] at h4
    have h3 := h3.resolve_left (by omega)
    exact .inr (.inr (.inr (.inl ⟨k4, h1, h3, ⟨h4.1.1.2, h4.1.2, h4.2⟩, h4.1.1.1⟩)))
  rw [if_neg k4] at h4
  have h2 := h2.resolve_left k4
  by_cases k5 : k = 5
  · rw [if_pos k5] at h4
    simp only [Bool.and_eq_true, beq_iff_eq, decide_eq_true_eq] at h4
    exact .inr (.inr (.inr (.inr (.inl ⟨k5, h1, h2.1, h2.2, h4.2, h4.1⟩))))
  rw [if_neg k5] at h4
  have h3 := h3.resolve_left k5
  by_cases k6 : k = 6
  · rw [if_pos k6] at h4
    exact .inr (.inr (.inr (.inr (.inr ⟨k6, h1, h2.1, h2.2, h3, by simpa using h4⟩))))
  rw [if_neg k6] at h4
  cases h4
mutual
theorem cuts_node : ∀ (x : Nd) (next : Nat) {m : Nat}, x.form next = some m → Cuts x.txt x.toks ∧ Begins x.txt
  | .mk k s lo hi n l, next, m, h => by
    obtain ⟨hf, hl⟩ := form_fields h
    obtain ⟨c1, c2, c3, c4⟩ := cuts_nodes k l _ hl
    rw [txt_mk, toks_mk]
    rcases fields_cases hf with ⟨rfl, h0, _⟩ | ⟨rfl, _, _, _, _, hn⟩ | ⟨rfl, _, _, _, _, hn⟩ | ⟨rfl, _, _, hb, hn⟩ | ⟨rfl, _, _, _, _, hn⟩ | ⟨rfl, _, _, _, _, hn⟩
    · obtain ⟨x, r, e, k1, k2, ht⟩ := tok_set s h0
      rw [if_pos rfl, if_pos rfl, e]
      exact ⟨cuts_tok ht k1, x, r, rfl, k2⟩
    · exact ⟨c1, (c4 (by rintro rfl; simp at hn)).1⟩
    · exact ⟨c2, (c4 (by rintro rfl; simp at hn)).2⟩
    · obtain ⟨x, r, e, k1, ht⟩ := tok_bounds hb
      refine ⟨?_, (c4 (by rintro rfl; simp at hn)).1.append _⟩
      show Cuts (txts [] l ++ boundsT lo hi) (toksBy [] l ++ [⟨6, 0, lo, hi⟩])
      rw [e]
      exact c1.append (cuts_tok ht k1)
    · have hb := (c4 (by rintro rfl; simp at hn)).1
      exact ⟨cuts_open (hb.append _) (c1.append cuts_close), 40, _, rfl, by decide⟩
    · exact ⟨cuts_bracket (c1.append cuts_close), 40, _, rfl, by decide⟩
theorem cuts_nodes : ∀ (k : Int) (l : List Nd) (next : Nat) {m : Nat}, forms k l next = some m →
    Cuts (txts [] l) (toksBy [] l) ∧ Cuts (txts [124] l) (toksBy [⟨5, 0, 0, 0⟩] l) ∧ (Cuts (txtsMore [] l) (toksMore [] l) ∧ Cuts (txtsMore [124] l) (toksMore [⟨5, 0, 0, 0⟩] l)) ∧ (l ≠ [] → Begins (txts [] l) ∧ Begins (txts [124] l))
  | k, [], next, m, h => by
    rw [txts_nil, txts_nil, toksBy_nil, toksBy_nil, more_nil, more_nil, toksMore_nil, toksMore_nil]
    exact ⟨cuts_nil, cuts_nil, ⟨cuts_nil, cuts_nil⟩, fun h => absurd rfl h⟩
  | k, x :: l, next, m, h => by
    obtain ⟨_, m1, h1, h2⟩ := forms_step h
    obtain ⟨a1, a2⟩ := cuts_node x next h1
    obtain ⟨_, _, ⟨b1, b2⟩, _⟩ := cuts_nodes k l m1 h2
    rw [txts_cons, txts_cons, toksBy_cons, toksBy_cons, more_cons, more_cons, toksMore_cons, toksMore_cons]
    exact ⟨a1.append b1, a1.append b2, ⟨cuts_nil.append (a1.append b1), cuts_bar.append (a1.append b2)⟩, fun _ => ⟨a2.append _, a2.append _⟩⟩
end
end Go.Proofs.YtjkhmmdjgancmaaDoor
/-! The tokens of a valid pattern are read as it; a pattern's text is parsed as the pattern. -/
namespace Go.Proofs.YtjkhmmdjgancmaaDoor
set_option maxRecDepth 100000
open Go.RowKit

/-! the numbers of groups go up -/
mutual
theorem form_mono : ∀ (x : Nd) (next : Nat) {m : Nat}, x.form next = some m → next ≤ m
  | .mk k s lo hi n l, next, m, h => by
    have := forms_mono k l _ (form_fields h).2
    split at this <;> omega
theorem forms_mono : ∀ (k : Int) (l : List Nd) (next : Nat) {m : Nat}, forms k l next = some m → next ≤ m
  | k, [], next, m, h => by rw [forms_nil] at h; injection h with h; omega
  | k, x :: l, next, m, h => by
    obtain ⟨_, m1, h1, h2⟩ := forms_step h
    have := form_mono x next h1
    have := forms_mono k l m1 h2
    omega
end
/-! the first token; all tokens -/
mutual
theorem toks_head : ∀ (x : Nd) (next : Nat) {m : Nat}, x.form next = some m → ∃ t T, x.toks = t :: T ∧ startsPiece t.kind = true
  | .mk k s lo hi n l, next, m, h => by
    obtain ⟨hf, hl⟩ := form_fields h
    have hh := fun sep (hn : l ≠ []) => tokss_head k sep l _ hl hn
    rw [toks_mk]
    rcases fields_cases hf with ⟨rfl, _⟩ | ⟨rfl, _, _, _, _, hn⟩ | ⟨rfl, _, _, _, _, hn⟩ | ⟨rfl, _, _, _, hn⟩ | ⟨rfl, _⟩ | ⟨rfl, _⟩
    · exact ⟨_, _, rfl, rfl⟩
    · exact hh [] (by rintro rfl; simp at hn)
    · exact hh [⟨5, 0, 0, 0⟩] (by rintro rfl; simp at hn)
    · obtain ⟨t, T, e, ht⟩ := hh [] (by rintro rfl; simp at hn)
      exact ⟨t, T ++ [⟨6, 0, lo, hi⟩], by show toksBy [] l ++ [⟨6, 0, lo, hi⟩] = _; rw [e]; rfl, ht⟩
    · exact ⟨_, _, rfl, rfl⟩
    · exact ⟨_, _, rfl, rfl⟩
theorem tokss_head : ∀ (k : Int) (sep : List Tok) (l : List Nd) (next : Nat) {m : Nat}, forms k l next = some m → l ≠ [] → ∃ t T, toksBy sep l = t :: T ∧ startsPiece t.kind = true
  | _, _, [], _, _, _, hn => absurd rfl hn
  | k, sep, x :: l, next, m, h, _ => by
    obtain ⟨_, m1, h1, _⟩ := forms_step h
    obtain ⟨t, T, e, ht⟩ := toks_head x next h1
    exact ⟨t, T ++ toksMore sep l, by rw [toksBy_cons, e]; rfl, ht⟩
end
mutual
theorem toks_flags : ∀ (x : Nd), ∀ t ∈ x.toks, t.kind ≠ 7 ∧ t.kind ≠ 8
  | .mk k s lo hi n l => by
    have h := tokss_flags l
    intro t ht
    rw [toks_mk] at ht
    have hs := fun (sep : List Tok) (h5 : ∀ u ∈ sep, u.kind ≠ 7 ∧ u.kind ≠ 8) => h sep h5 t
    split at ht
    · rw [List.mem_singleton] at ht; subst ht; exact ⟨show (1 : Nat) ≠ 7 by decide, show (1 : Nat) ≠ 8 by decide⟩
    split at ht
    · exact (hs _ (by simp)).1 ht
    split at ht
    · rcases List.mem_append.1 ht with ht | ht
      · exact (hs [] (by simp)).1 ht
      · rw [List.mem_singleton] at ht; subst ht; exact ⟨show (6 : Nat) ≠ 7 by decide, show (6 : Nat) ≠ 8 by decide⟩
    split at ht
    · rcases List.mem_cons.1 ht with rfl | ht
      · exact ⟨by decide, by decide⟩
      · rcases List.mem_append.1 ht with ht | ht
        · exact (hs [] (by simp)).1 ht
        · rw [List.mem_singleton] at ht; subst ht; exact ⟨by decide, by decide⟩
    split at ht
    · rcases List.mem_cons.1 ht with rfl | ht
      · exact ⟨by decide, by decide⟩
      · rcases List.mem_append.1 ht with ht | ht
        · exact (hs [] (by simp)).1 ht
        · rw [List.mem_singleton] at ht; subst ht; exact ⟨by decide, by decide⟩
    · exact (hs [] (by simp)).1 ht
theorem tokss_flags : ∀ (l : List Nd) (sep : List Tok), (∀ u ∈ sep, u.kind ≠ 7 ∧ u.kind ≠ 8) → ∀ t, (t ∈ toksBy sep l → t.kind ≠ 7 ∧ t.kind ≠ 8) ∧ (t ∈ toksMore sep l → t.kind ≠ 7 ∧ t.kind ≠ 8)
  | [], sep, _, t => by rw [toksBy_nil, toksMore_nil]; simp
  | x :: l, sep, h5, t => by
    have h1 := toks_flags x t
    have h2 := (tokss_flags l sep h5 t).2
    rw [toksBy_cons, toksMore_cons]
    constructor
    · intro ht
      rcases List.mem_append.1 ht with ht | ht
      · exact h1 ht
      · exact h2 ht
    · intro ht
      rcases List.mem_append.1 ht with ht | ht
      · exact h5 t ht
      · rcases List.mem_append.1 ht with ht | ht
        · exact h1 ht
        · exact h2 ht
end
/-! read -/
/-- tokens with places, behind one another -/
def Places (P : List TK) (T : List Tok) : Prop := P.map (·.1) = T
theorem kind_head (p : TK) (L : List TK) : kindOf (p :: L) = p.1.kind := rfl
theorem set_head (p : TK) (L : List TK) : setHead (p :: L) = p.1.set := rfl
theorem lo_head (p : TK) (L : List TK) : loHead (p :: L) = p.1.lo := rfl
theorem hi_head (p : TK) (L : List TK) : hiHead (p :: L) = p.1.hi := rfl
theorem places_append {P : List TK} {T U : List Tok} (h : Places P (T ++ U)) : ∃ A B, P = A ++ B ∧ Places A T ∧ Places B U := by
  obtain ⟨A, B, e, h1, h2⟩ := List.map_eq_append_iff.1 h
  exact ⟨A, B, e, h1, h2⟩
theorem places_cons {P : List TK} {t : Tok} {T : List Tok} (h : Places P (t :: T)) : ∃ p B, P = p :: B ∧ p.1 = t ∧ Places B T := by
  obtain ⟨p, B, e, h1, h2⟩ := List.map_eq_cons_iff.1 h
  exact ⟨p, B, e, h1, h2⟩
theorem places_nil {P : List TK} (h : Places P []) : P = [] := List.map_eq_nil_iff.1 h
theorem places_one {P : List TK} {t : Tok} (h : Places P [t]) : ∃ p, P = [p] ∧ p.1 = t := by
  obtain ⟨p, B, e, h1, h2⟩ := places_cons h
  rw [places_nil h2] at e
  exact ⟨p, e, h1⟩
theorem places_kind {P : List TK} {t : Tok} {T : List Tok} (h : Places P (t :: T)) (R : List TK) : kindOf (P ++ R) = t.kind := by
  obtain ⟨p, B, e, h1, _⟩ := places_cons h
  rw [e, ← h1]; rfl
theorem places_length {P : List TK} {T : List Tok} (h : Places P T) : P.length = T.length := by rw [← h, List.length_map]
section
variable (fin : Int)
/-- within brackets, a set -/
def AtomBack (x : Nd) : Prop := ∀ (n : Nat) (P R : List TK) (g g' : Nat), (x.kind = 1 ∨ x.kind = 5 ∨ x.kind = 6) → x.form (g + 1) = some (g' + 1) → Places P x.toks → P.length ≤ n → atomP fin (encF fin n) (P ++ R) g = .ok x R g'
def PieceBack (x : Nd) : Prop := ∀ (n : Nat) (P R : List TK) (g g' : Nat), x.kind ≠ 2 → x.kind ≠ 3 → x.form (g + 1) = some (g' + 1) → Places P x.toks → P.length ≤ n → (x.kind = 4 ∨ kindOf R ≠ 6) → pieceP fin (encF fin n) (P ++ R) g = .ok x R g'
def ConcatBack (x : Nd) : Prop := ∀ (n : Nat) (P R : List TK) (g g' : Nat), x.kind ≠ 3 → x.form (g + 1) = some (g' + 1) → Places P x.toks → P.length ≤ n → Stops R → concatP fin (encF fin n) (P ++ R) g = .ok x R g'
def AltBack (x : Nd) : Prop := ∀ (n : Nat) (P R : List TK) (g g' : Nat), x.form (g + 1) = some (g' + 1) → Places P x.toks → P.length ≤ n → Stops R → kindOf R ≠ 5 → (rowsP fin (encF fin n) (P ++ R) g).map (oneOf 3) = .ok x R g'
variable {fin}
theorem mid_step {x : Nd} {l : List Nd} {k : Int} {g g' : Nat} (h : forms k (x :: l) (g + 1) = some (g' + 1)) : within k x.kind = true ∧ ∃ g1, x.form (g + 1) = some (g1 + 1) ∧ forms k l (g1 + 1) = some (g' + 1) := by
  obtain ⟨hw, m1, h1, h2⟩ := forms_step h
  have := form_mono x _ h1
  exact ⟨hw, m1 - 1, by rw [show m1 - 1 + 1 = m1 from by omega]; exact h1, by rw [show m1 - 1 + 1 = m1 from by omega]; exact h2⟩
theorem nil_step {k : Int} {g g' : Nat} (h : forms k [] (g + 1) = some (g' + 1)) : g' = g := by
  rw [forms_nil] at h; injection h with h; omega
theorem not_six {t : Tok} (h : startsPiece t.kind = true) : t.kind ≠ 6 := by
  intro e; rw [e] at h; cases h
/-- the pieces that follow -/
theorem more_back (n : Nat) : ∀ (l : List Nd), (∀ y ∈ l, PieceBack fin y) → ∀ (f : Nat) (P R : List TK) (g g' : Nat), forms 2 l (g + 1) = some (g' + 1) → Places P (toksBy [] l) → P.length ≤ n → P.length < f → Stops R → moreP fin (encF fin n) f (P ++ R) g = .ok l R g'
  | [], _, f, P, R, g, g', h, hP, _, hf, hR => by
    rw [toksBy_nil] at hP
    rw [nil_step h, places_nil hP]
    cases f with
    | zero => omega
    | succ f => unfold moreP; rw [List.nil_append, if_neg (by rw [hR.2]; decide)]
  | y :: l, hy, f, P, R, g, g', h, hP, hn, hf, hR => by
    obtain ⟨hw, g1, h1, h2⟩ := mid_step h
    rw [toksBy_cons, toksMore_none] at hP
    obtain ⟨A, B, rfl, hA, hB⟩ := places_append hP
    obtain ⟨t, T, et, ht⟩ := toks_head y _ h1
    have hA' := hA
    rw [et] at hA'
    cases f with
    | zero => omega
    | succ f =>
      have hlen := places_length hA'
      simp only [List.length_cons] at hlen
      rw [List.length_append] at hn hf
      have hk2 : y.kind ≠ 2 ∧ y.kind ≠ 3 := by
        constructor <;> (intro e; rw [e] at hw; revert hw; decide)
      have hnext : kindOf (B ++ R) ≠ 6 := by
        cases l with
        | nil => rw [toksBy_nil] at hB; rw [places_nil hB]; exact hR.1
        | cons z l =>
          obtain ⟨u, U, eu, hu⟩ := tokss_head 2 [] (z :: l) _ h2 (by simp)
          rw [eu] at hB
          rw [places_kind hB]; exact not_six hu
      unfold moreP
      rw [List.append_assoc, if_pos (by rw [places_kind hA']; exact ht), hy y (by simp) n A (B ++ R) g g1 hk2.1 hk2.2 h1 hA (by omega) (.inr hnext)]
      show PR.map _ (moreP fin (encF fin n) f (B ++ R) g1) = _
      rw [more_back n l (fun z hz => hy z (by simp [hz])) f B R g1 g' h2 hB (by omega) (by omega) hR]
      rfl
theorem pieces_back (n : Nat) (y : Nd) (l : List Nd) (hy : ∀ z ∈ y :: l, PieceBack fin z) (P R : List TK) (g g' : Nat) (h : forms 2 (y :: l) (g + 1) = some (g' + 1)) (hP : Places P (toksBy [] (y :: l))) (hn : P.length ≤ n) (hR : Stops R) : piecesP fin (encF fin n) (P ++ R) g = .ok (y :: l) R g' := by
  obtain ⟨hw, g1, h1, h2⟩ := mid_step h
  rw [toksBy_cons, toksMore_none] at hP
  obtain ⟨A, B, rfl, hA, hB⟩ := places_append hP
  rw [List.length_append] at hn
  have hk2 : y.kind ≠ 2 ∧ y.kind ≠ 3 := by
    constructor <;> (intro e; rw [e] at hw; revert hw; decide)
  have hnext : kindOf (B ++ R) ≠ 6 := by
    cases l with
    | nil => rw [toksBy_nil] at hB; rw [places_nil hB]; exact hR.1
    | cons z l =>
      obtain ⟨u, U, eu, hu⟩ := tokss_head 2 [] (z :: l) _ h2 (by simp)
      rw [eu] at hB
      rw [places_kind hB]; exact not_six hu
  unfold piecesP
  rw [List.append_assoc, hy y (by simp) n A (B ++ R) g g1 hk2.1 hk2.2 h1 hA (by omega) (.inr hnext)]
  show PR.map _ (moreP fin (encF fin n) ((B ++ R).length + 1) (B ++ R) g1) = _
  rw [more_back n l (fun z hz => hy z (by simp [hz])) _ B R g1 g' h2 hB (by omega) (by rw [List.length_append]; omega) hR]
  rfl
/-- the alternatives that follow -/
theorem moreRows_back (n : Nat) : ∀ (l : List Nd), (∀ y ∈ l, ConcatBack fin y) → ∀ (f : Nat) (P R : List TK) (g g' : Nat), forms 3 l (g + 1) = some (g' + 1) → Places P (toksMore [⟨5, 0, 0, 0⟩] l) → P.length ≤ n → P.length < f → Stops R → kindOf R ≠ 5 → moreRows fin (encF fin n) f (P ++ R) g = .ok l R g'
  | [], _, f, P, R, g, g', h, hP, _, hf, _, h5 => by
    rw [toksMore_nil] at hP
    rw [nil_step h, places_nil hP]
    cases f with
    | zero => omega
    | succ f => unfold moreRows; rw [List.nil_append, if_neg h5]
  | y :: l, hy, f, P, R, g, g', h, hP, hn, hf, hR, h5 => by
    obtain ⟨hw, g1, h1, h2⟩ := mid_step h
    rw [toksMore_cons] at hP
    obtain ⟨p, Q, rfl, hp, hQ⟩ := places_cons hP
    obtain ⟨A, B, rfl, hA, hB⟩ := places_append (show Places Q (y.toks ++ toksMore [⟨5, 0, 0, 0⟩] l) from hQ)
    cases f with
    | zero => omega
    | succ f =>
      simp only [List.length_cons, List.length_append] at hn hf
      have hk : y.kind ≠ 3 := by intro e; rw [e] at hw; revert hw; decide
      have hnext : Stops (B ++ R) := by
        cases l with
        | nil => rw [toksMore_nil] at hB; rw [places_nil hB]; exact hR
        | cons z l =>
          rw [toksMore_cons] at hB
          have e := places_kind (t := ⟨5, 0, 0, 0⟩) hB R
          unfold Stops
          rw [e]; decide
      have hk5 : kindOf (p :: (A ++ B) ++ R) = 5 := (kind_head p _).trans (by rw [hp])
      unfold moreRows
      rw [if_pos hk5]
      show PR.bind (concatP fin (encF fin n) (A ++ B ++ R) g) _ = _
      rw [List.append_assoc, hy y (by simp) n A (B ++ R) g g1 hk h1 hA (by omega) hnext]
      show PR.map _ (moreRows fin (encF fin n) f (B ++ R) g1) = _
      rw [moreRows_back n l (fun z hz => hy z (by simp [hz])) f B R g1 g' h2 hB (by omega) (by omega) hR h5]
      rfl
theorem rows_back (n : Nat) (y : Nd) (l : List Nd) (hy : ∀ z ∈ y :: l, ConcatBack fin z) (P R : List TK) (g g' : Nat) (h : forms 3 (y :: l) (g + 1) = some (g' + 1)) (hP : Places P (toksBy [⟨5, 0, 0, 0⟩] (y :: l))) (hn : P.length ≤ n) (hR : Stops R) (h5 : kindOf R ≠ 5) : rowsP fin (encF fin n) (P ++ R) g = .ok (y :: l) R g' := by
  obtain ⟨hw, g1, h1, h2⟩ := mid_step h
  rw [toksBy_cons] at hP
  obtain ⟨A, B, rfl, hA, hB⟩ := places_append hP
  rw [List.length_append] at hn
  have hk : y.kind ≠ 3 := by intro e; rw [e] at hw; revert hw; decide
  have hnext : Stops (B ++ R) := by
    cases l with
    | nil => rw [toksMore_nil] at hB; rw [places_nil hB]; exact hR
    | cons z l =>
      rw [toksMore_cons] at hB
      have e := places_kind (t := ⟨5, 0, 0, 0⟩) hB R
      unfold Stops
      rw [e]; decide
  unfold rowsP
  rw [List.append_assoc, hy y (by simp) n A (B ++ R) g g1 hk h1 hA (by omega) hnext]
  show PR.map _ (moreRows fin (encF fin n) ((B ++ R).length + 1) (B ++ R) g1) = _
  rw [moreRows_back n l (fun z hz => hy z (by simp [hz])) _ B R g1 g' h2 hB (by omega) (by rw [List.length_append]; omega) hR h5]
  rfl
/-- one node between brackets -/
theorem single_form {k : Int} {y : Nd} {l : List Nd} {g g' : Nat} (hl : (y :: l).length = 1) (h : forms k (y :: l) (g + 1) = some (g' + 1)) : l = [] ∧ within k y.kind = true ∧ y.form (g + 1) = some (g' + 1) := by
  cases l with
  | cons z l => simp at hl
  | nil =>
    obtain ⟨hw, g1, h1, h2⟩ := mid_step h
    rw [nil_step h2]
    exact ⟨rfl, hw, h1⟩
theorem enc_back {n : Nat} {y : Nd} (hy : AltBack fin y) {P R : List TK} {g g' : Nat} {p : TK} (h : y.form (g + 1) = some (g' + 1)) (hP : Places P y.toks) (hp : p.1 = ⟨4, 0, 0, 0⟩) (hn : P.length ≤ n) : encF fin (n + 1) (P ++ p :: R) g = .ok y R g' := by
  have hk : kindOf (p :: R) = 4 := (kind_head p R).trans (by rw [hp])
  unfold encF enclosedP
  show PR.bind (PR.map (oneOf 3) (rowsP fin (encF fin n) (P ++ p :: R) g)) _ = _
  rw [hy n P (p :: R) g g' h hP hn (by unfold Stops; rw [hk]; decide) (by rw [hk]; decide)]
  unfold PR.bind
  simp only
  rw [if_pos hk]; rfl
theorem node_back : ∀ (N : Nat) (x : Nd), x.count ≤ N → AtomBack fin x ∧ PieceBack fin x ∧ ConcatBack fin x ∧ AltBack fin x
  | 0, x, h => absurd h (by have := x.count_pos; omega)
  | N + 1, x, hN => by
    have ih : ∀ y ∈ x.nodes, AtomBack fin y ∧ PieceBack fin y ∧ ConcatBack fin y ∧ AltBack fin y := fun y hy => node_back N y (by have := count_mem hy; omega)
    cases x with
    | mk k s lo hi m l =>
      have ih : ∀ y ∈ l, AtomBack fin y ∧ PieceBack fin y ∧ ConcatBack fin y ∧ AltBack fin y := ih
      have hAtom : AtomBack fin (.mk k s lo hi m l) := by
        intro n P R g g' hk h hP hn
        have hk : k = 1 ∨ k = 5 ∨ k = 6 := hk
        obtain ⟨hf, hl⟩ := form_fields h
        rw [toks_mk] at hP
        rcases fields_cases hf with ⟨rfl, _, rfl, rfl, rfl, h0⟩ | ⟨rfl, _⟩ | ⟨rfl, _⟩ | ⟨rfl, _⟩ | ⟨rfl, rfl, rfl, rfl, rfl, h1⟩ | ⟨rfl, rfl, rfl, rfl, rfl, h1⟩
        · obtain rfl : l = [] := List.length_eq_zero_iff.1 h0
          rw [if_pos rfl] at hP
          obtain ⟨p, rfl, hp⟩ := places_one hP
          have hk1 : kindOf ([p] ++ R) = 1 := (kind_head p R).trans (by rw [hp])
          have hs : setHead ([p] ++ R) = s := (set_head p R).trans (by rw [hp])
          rw [if_neg (by decide)] at hl
          rw [nil_step hl]
          unfold atomP
          rw [hk1, hs]
          rfl
        · omega
        · omega
        · omega
        · cases l with
          | nil => simp at h1
          | cons y l =>
            rw [if_pos rfl] at hl
            obtain ⟨rfl, hw, hy⟩ := single_form h1 hl
            obtain ⟨p, Q, rfl, hp, hQ⟩ := places_cons (show Places P (⟨2, 0, 0, 0⟩ :: (toksBy [] [y] ++ [⟨4, 0, 0, 0⟩])) from hP)
            obtain ⟨A, B, rfl, hA, hB⟩ := places_append hQ
            obtain ⟨q, rfl, hq⟩ := places_one hB
            rw [toksBy_cons, toksMore_nil, List.append_nil] at hA
            obtain ⟨n, rfl⟩ : ∃ n', n = n' + 1 := ⟨n - 1, by simp at hn; omega⟩
            have hk2 : kindOf (p :: (A ++ [q]) ++ R) = 2 := (kind_head p _).trans (by rw [hp])
            have he := enc_back (n := n) (R := R) (p := q) (ih y (show y ∈ [y] from by simp)).2.2.2 (g := g + 1) (g' := g') hy hA hq (by simp at hn; omega)
            unfold atomP
            rw [if_pos hk2]
            show PR.map _ (encF fin (n + 1) (A ++ [q] ++ R) (g + 1)) = _
            rw [List.append_assoc, show [q] ++ R = q :: R from rfl, he]
            rfl
        · cases l with
          | nil => simp at h1
          | cons y l =>
            rw [if_neg (by decide)] at hl
            obtain ⟨rfl, hw, hy⟩ := single_form h1 hl
            obtain ⟨p, Q, rfl, hp, hQ⟩ := places_cons (show Places P (⟨3, 0, 0, 0⟩ :: (toksBy [] [y] ++ [⟨4, 0, 0, 0⟩])) from hP)
            obtain ⟨A, B, rfl, hA, hB⟩ := places_append hQ
            obtain ⟨q, rfl, hq⟩ := places_one hB
            rw [toksBy_cons, toksMore_nil, List.append_nil] at hA
            obtain ⟨n, rfl⟩ : ∃ n', n = n' + 1 := ⟨n - 1, by simp at hn; omega⟩
            have hk2 : kindOf (p :: (A ++ [q]) ++ R) = 3 := (kind_head p _).trans (by rw [hp])
            have he := enc_back (n := n) (R := R) (p := q) (ih y (show y ∈ [y] from by simp)).2.2.2 (g := g) (g' := g') hy hA hq (by simp at hn; omega)
            unfold atomP
            rw [if_neg (by rw [hk2]; decide), if_pos hk2]
            show PR.map _ (encF fin (n + 1) (A ++ [q] ++ R) g) = _
            rw [List.append_assoc, show [q] ++ R = q :: R from rfl, he]
            rfl
      have hPiece : PieceBack fin (.mk k s lo hi m l) := by
        intro n P R g g' hk2 hk3 h hP hn hR
        have hk2 : k ≠ 2 := hk2
        have hk3 : k ≠ 3 := hk3
        have hR : k = 4 ∨ kindOf R ≠ 6 := hR
        obtain ⟨hf, hl⟩ := form_fields h
        by_cases h4 : k = 4
        · subst h4
          rw [toks_mk] at hP
          rcases fields_cases hf with ⟨e, _⟩ | ⟨e, _⟩ | ⟨e, _⟩ | ⟨_, rfl, rfl, hb, h1⟩ | ⟨e, _⟩ | ⟨e, _⟩
          · omega
          · omega
          · omega
          · cases l with
            | nil => simp at h1
            | cons y l =>
              rw [if_neg (by decide)] at hl
              obtain ⟨rfl, hw, hy⟩ := single_form h1 hl
              obtain ⟨A, B, rfl, hA, hB⟩ := places_append (show Places P (toksBy [] [y] ++ [⟨6, 0, lo, hi⟩]) from hP)
              obtain ⟨q, rfl, hq⟩ := places_one hB
              rw [toksBy_cons, toksMore_nil, List.append_nil] at hA
              rw [List.length_append] at hn
              have hyk : y.kind = 1 ∨ y.kind = 5 ∨ y.kind = 6 := by
                cases y with
                | mk k' s' lo' hi' n' l' =>
                  show k' = 1 ∨ k' = 5 ∨ k' = 6
                  have hw : within 4 k' = true := hw
                  obtain ⟨hf', _⟩ := form_fields hy
                  rcases fields_cases hf' with ⟨e, _⟩ | ⟨e, _⟩ | ⟨e, _⟩ | ⟨e, _⟩ | ⟨e, _⟩ | ⟨e, _⟩
                  · exact .inl e
                  · rw [e] at hw; exact absurd hw (by decide)
                  · rw [e] at hw; exact absurd hw (by decide)
                  · rw [e] at hw; exact absurd hw (by decide)
                  · exact .inr (.inl e)
                  · exact .inr (.inr e)
              have ha := (ih y (show y ∈ [y] from by simp)).1 n A ([q] ++ R) g g' hyk hy hA (by omega)
              have hk6 : kindOf ([q] ++ R) = 6 := (kind_head q R).trans (by rw [hq])
              have hlo : loHead ([q] ++ R) = lo := (lo_head q R).trans (by rw [hq])
              have hhi : hiHead ([q] ++ R) = hi := (hi_head q R).trans (by rw [hq])
              unfold pieceP
              rw [List.append_assoc, ha]
              unfold PR.bind
              simp only
              rw [if_pos hk6, hlo, hhi]
              rfl
          · omega
          · omega
        · have hR := hR.resolve_left h4
          have hk : k = 1 ∨ k = 5 ∨ k = 6 := by
            rcases fields_cases hf with ⟨e, _⟩ | ⟨e, _⟩ | ⟨e, _⟩ | ⟨e, _⟩ | ⟨e, _⟩ | ⟨e, _⟩ <;> omega
          unfold pieceP
          rw [hAtom n P R g g' hk h hP hn]
          unfold PR.bind
          simp only
          rw [if_neg hR]
      have hConcat : ConcatBack fin (.mk k s lo hi m l) := by
        intro n P R g g' hk3 h hP hn hR
        have hk3 : k ≠ 3 := hk3
        by_cases h2 : k = 2
        · subst h2
          obtain ⟨hf, hl⟩ := form_fields h
          rw [toks_mk] at hP
          rcases fields_cases hf with ⟨e, _⟩ | ⟨_, rfl, rfl, rfl, rfl, h2⟩ | ⟨e, _⟩ | ⟨e, _⟩ | ⟨e, _⟩ | ⟨e, _⟩
          · omega
          · match l, h2 with
            | y :: z :: l, _ =>
              unfold concatP
              rw [pieces_back n y (z :: l) (fun u hu => (ih u hu).2.1) P R g g' hl hP hn hR]
              rfl
          · omega
          · omega
          · omega
          · omega
        · unfold concatP piecesP
          rw [hPiece n P R g g' h2 hk3 h hP hn (.inr hR.1)]
          show PR.map _ (PR.map _ (moreP fin (encF fin n) (R.length + 1) R g')) = _
          unfold moreP
          rw [if_neg (by rw [hR.2]; decide)]
          rfl
      refine ⟨hAtom, hPiece, hConcat, ?_⟩
      intro n P R g g' h hP hn hR h5
      by_cases h3 : k = 3
      · subst h3
        obtain ⟨hf, hl⟩ := form_fields h
        rw [toks_mk] at hP
        rcases fields_cases hf with ⟨e, _⟩ | ⟨e, _⟩ | ⟨_, rfl, rfl, rfl, rfl, h2⟩ | ⟨e, _⟩ | ⟨e, _⟩ | ⟨e, _⟩
        · omega
        · omega
        · match l, h2 with
          | y :: z :: l, _ =>
            rw [rows_back n y (z :: l) (fun u hu => (ih u hu).2.2.1) P R g g' hl hP hn hR h5]
            rfl
        · omega
        · omega
        · omega
      · unfold rowsP
        rw [hConcat n P R g g' h3 h hP hn hR]
        show PR.map _ (PR.map _ (moreRows fin (encF fin n) (R.length + 1) R g')) = _
        unfold moreRows
        rw [if_neg h5]
        rfl
end
/-! a pattern -/
def flagT (st en : Bool) (x : Nd) : List Nat := (if st then [94] else []) ++ (x.txt ++ (if en then [36] else []))
theorem good_form {x : Nd} {gr : Int} (h : goodP x gr = true) : ∃ g : Nat, gr = (g : Int) ∧ x.form 1 = some (g + 1) := by
  unfold goodP at h
  simp only [Bool.and_eq_true] at h
  have h3 := h.2
  cases hf : x.form 1 with
  | none => rw [hf] at h3; cases h3
  | some m =>
    rw [hf] at h3
    simp only [Bool.and_eq_true, beq_iff_eq, decide_eq_true_eq] at h3
    have := form_mono x 1 hf
    exact ⟨m - 1, by omega, by rw [show m - 1 + 1 = m from by omega]⟩
theorem flag_cuts {x : Nd} {g : Nat} (h : x.form 1 = some (g + 1)) (st en : Bool) : Cuts (flagT st en x) ((if st then [⟨7, 0, 0, 0⟩] else []) ++ (x.toks ++ (if en then [⟨8, 0, 0, 0⟩] else []))) := by
  have hx := (cuts_node x 1 h).1
  have h7 : Cuts [94] [⟨7, 0, 0, 0⟩] := cuts_one fun _ => rfl
  have h8 : Cuts [36] [⟨8, 0, 0, 0⟩] := cuts_one fun _ => rfl
  unfold flagT
  cases st <;> cases en
  · exact cuts_nil.append (hx.append cuts_nil)
  · exact cuts_nil.append (hx.append h8)
  · exact h7.append (hx.append cuts_nil)
  · exact h7.append (hx.append h8)
theorem last_flag {P : List TK} {x : Nd} (hP : Places P x.toks) : endsWith8 P = false := by
  unfold endsWith8
  cases hl : P.getLast? with
  | none => rfl
  | some p =>
    have hm := List.mem_of_getLast? hl
    have : p.1 ∈ x.toks := by rw [← show P.map (·.1) = x.toks from hP]; exact List.mem_map_of_mem hm
    simpa using (toks_flags x _ this).2
/-- written and read, the same -/
theorem text_back {x : Nd} {gr : Int} (h : goodP x gr = true) (st en : Bool) (hl : (flagT st en x).length ≤ 1024) : ∃ g : Nat, gr = (g : Int) ∧ ofP cls (flagT st en x) = .ok st en x g := by
  obtain ⟨g, rfl, hf⟩ := good_form h
  refine ⟨g, rfl, ?_⟩
  obtain ⟨Q, hQ, e⟩ := flag_cuts hf st en [] ((flagT st en x).length + 1) 0 (by simp)
  rw [List.append_nil] at e
  have ec : cutAll cls (flagT st en x) = (none, Q) := by
    unfold cutAll
    rw [e, cut_nil]
    simp
  unfold ofP
  rw [if_neg (by omega), ec]
  simp only
  generalize (((flagT st en x).length : Nat) : Int) = N
  obtain ⟨A, Q1, rfl, hA, hQ1⟩ := places_append (show Places Q _ from hQ)
  obtain ⟨P, Z, rfl, hP, hZ⟩ := places_append hQ1
  obtain ⟨t, T, et, ht⟩ := toks_head x 1 hf
  have hPk : ∀ R, kindOf (P ++ R) = t.kind := fun R => by rw [et] at hP; exact places_kind hP R
  have hPn : P ≠ [] := by rintro rfl; rw [et] at hP; cases hP
  have ht7 : t.kind ≠ 7 := by intro e; rw [e] at ht; cases ht
  -- ahead
  have hs : trimStart (A ++ (P ++ Z)) = P ++ Z ∧ (kindOf (A ++ (P ++ Z)) == 7) = st := by
    cases st
    · have hA : A = [] := places_nil hA
      subst hA
      have hk := hPk Z
      rw [List.nil_append]
      refine ⟨?_, by rw [hk]; simpa using ht7⟩
      unfold trimStart
      rw [if_neg (by rw [hk]; exact ht7)]
    · obtain ⟨p, rfl, hp⟩ := places_one (t := ⟨7, 0, 0, 0⟩) hA
      have hk : kindOf ([p] ++ (P ++ Z)) = 7 := (kind_head p _).trans (by rw [hp])
      refine ⟨?_, by rw [hk]; rfl⟩
      unfold trimStart
      rw [if_pos hk]; rfl
  -- behind
  have he : trimEnd (P ++ Z) = P ∧ endsWith8 (P ++ Z) = en := by
    cases en
    · have hZ : Z = [] := places_nil hZ
      subst hZ
      rw [List.append_nil]
      have h8 := last_flag hP
      refine ⟨?_, h8⟩
      unfold trimEnd
      rw [h8]; rfl
    · obtain ⟨p, rfl, hp⟩ := places_one (t := ⟨8, 0, 0, 0⟩) hZ
      have h8 : endsWith8 (P ++ [p]) = true := by
        rw [ends_append _ _ (by simp)]
        unfold endsWith8
        simp [hp]
      refine ⟨?_, h8⟩
      unfold trimEnd
      rw [if_pos h8]; simp
  unfold ofTokens readP
  simp only
  rw [hs.1, he.1, hs.2, he.2]
  generalize finOf N (P ++ Z) = fin
  have hr := (node_back (fin := fin) x.count x (Nat.le_refl _)).2.2.2 (P.length + 1) P [] 0 g hf hP (by omega) stops_nil (by decide)
  rw [List.append_nil] at hr
  unfold altF
  rw [hr]
  unfold PR.bind
  simp only [if_true]
  rw [if_pos h]
end Go.Proofs.YtjkhmmdjgancmaaDoor
/-! A strings.Builder that the call has made, written: copyCheck, WriteByte, WriteString, String; what each leaves alone. -/
namespace Go.Proofs.YtjkhmmdjgancmaaDoor
set_option maxRecDepth 100000
open Go.RowKit

/-- block b is a builder, of the call's own (from B on), that holds the bytes l; v: its buffer -/
def Bld (w : World) (B b : Nat) (l : List Nat) (v : Value) : Prop :=
  B ≤ b ∧ (∃ p, (p = .pointer none ∨ p = .pointer (some ⟨b, 0, none⟩)) ∧ w.heap[b]? = some (.cells #[p, v] 76 (0, 0))) ∧ w.ownsRow B 5 1 v l.length (l.map u8v)
/-- what a write leaves alone: what lies below B, and each block but b and the buffer's; the buffer stays or is new -/
structure Wrote (B b : Nat) (w : World) (v : Value) (w' : World) (v' : Value) : Prop where
  below : Below B w w'
  keep : ∀ k, k < w.heap.size → k ≠ b → v.ownBlock ≠ some k → w'.heap[k]? = w.heap[k]?
  fresh : v'.ownBlock = v.ownBlock ∨ ∃ g, v'.ownBlock = some g ∧ w.heap.size ≤ g
theorem Wrote.refl (B b : Nat) (w : World) (v : Value) : Wrote B b w v w v := ⟨Below.refl _ _, fun _ _ _ _ => rfl, .inl rfl⟩
theorem Wrote.own {B b : Nat} {w w' : World} {v v' : Value} (h : Wrote B b w v w' v') {k : Nat} (hk : k < w.heap.size) (hv : v.ownBlock ≠ some k) : v'.ownBlock ≠ some k := by
  rcases h.fresh with e | ⟨g, e, hg⟩
  · rw [e]; exact hv
  · rw [e]; intro e2; injection e2 with e2; omega
theorem Wrote.trans {B b : Nat} {w w1 w2 : World} {v v1 v2 : Value} (h : Wrote B b w v w1 v1) (h' : Wrote B b w1 v1 w2 v2) : Wrote B b w v w2 v2 := by
  refine ⟨h.below.trans h'.below, fun k hk hb hv => ?_, ?_⟩
  · rw [h'.keep k (Nat.lt_of_lt_of_le hk h.below.size) hb (h.own hk hv), h.keep k hk hb hv]
  · rcases h'.fresh with e | ⟨g, e, hg⟩
    · rw [e]; exact h.fresh
    · exact .inr ⟨g, e, Nat.le_trans h.below.size hg⟩
theorem Wrote.later {B b : Nat} {w w' : World} (v : Value) (h : Below w.heap.size w w') (hB : B ≤ w.heap.size) : Wrote B b w v w' v :=
  ⟨h.mono hB, fun k hk _ _ => h.block k hk, .inl rfl⟩
theorem Wrote.alloc {B b : Nat} {w : World} (v : Value) (hB : B ≤ w.heap.size) (o : Obj) : Wrote B b w v (w.alloc o) v := Wrote.later v ((Below.refl _ _).alloc (Nat.le_refl _) o) hB
theorem Bld.lt {w : World} {B b : Nat} {l : List Nat} {v : Value} (h : Bld w B b l v) : b < w.heap.size := by
  obtain ⟨_, ⟨p, _, hb⟩, _⟩ := h
  exact lt_of_block hb
theorem Bld.ownLt {w : World} {B b : Nat} {l : List Nat} {v : Value} (h : Bld w B b l v) {k : Nat} (hk : w.heap.size ≤ k) : v.ownBlock ≠ some k := by
  intro e; have := h.2.2.lt k e; omega
theorem Bld.ownNe {w : World} {B b : Nat} {l : List Nat} {v : Value} (h : Bld w B b l v) : v.ownBlock ≠ some b := by
  obtain ⟨_, ⟨p, _, hb⟩, ho⟩ := h
  exact Lib.ownBlock_ne ho hb (by decide)
/-- no block of another type is the buffer's -/
theorem Bld.ownKind {w : World} {B b : Nat} {l : List Nat} {v : Value} (h : Bld w B b l v) {k : Nat} {cs : Array Value} {T : TypeId} {fr : Nat × Nat} (hk : w.heap[k]? = some (.cells cs T fr)) (hT : T ≠ 5) : v.ownBlock ≠ some k := Lib.ownBlock_ne h.2.2 hk hT
theorem Bld.later {w w' : World} {B b : Nat} {l : List Nat} {v : Value} (h : Bld w B b l v) (hb : Below w.heap.size w w') : Bld w' B b l v := by
  have hlt := h.lt
  obtain ⟨h1, ⟨p, hp, hb2⟩, ho⟩ := h
  exact ⟨h1, ⟨p, hp, (hb.block b hlt).trans hb2⟩, owns_below ho hb⟩
theorem Bld.alloc {w : World} {B b : Nat} {l : List Nat} {v : Value} (h : Bld w B b l v) (o : Obj) : Bld (w.alloc o) B b l v := h.later ((Below.refl _ _).alloc (Nat.le_refl _) o)
theorem bld_fresh (w : World) : Bld (w.alloc (.cells #[.pointer none, .slice none 0 0] 76)) w.heap.size w.heap.size [] (.slice none 0 0) :=
  ⟨Nat.le_refl _, ⟨_, .inl rfl, World.alloc_heap_new w _⟩, World.ownsRow_nil _ _ _ _⟩
theorem bld_cells {l : List Nat} (h : ∀ x ∈ l, x < 256) : Lib.byteCells (toBytes l) = l.map u8v := by
  unfold Lib.byteCells toBytes
  rw [List.map_map]
  refine List.map_congr_left fun x hx => ?_
  have := h x hx
  simp [u8v, Nat.mod_eq_of_lt this]
theorem Bld.is {w : World} {B b : Nat} {l : List Nat} {v : Value} (h : Bld w B b l v) (hl : ∀ x ∈ l, x < 256) : Lib.IsBuilder 76 5 B b (Lib.byteCells (toBytes l)) w := by
  have hne := h.ownNe
  obtain ⟨h1, ⟨p, hp, hb⟩, ho⟩ := h
  rw [bld_cells hl]
  have ho' : w.ownsRow B 5 1 v (l.map u8v).length (l.map u8v) := by rw [List.length_map]; exact ho
  rcases hp with rfl | rfl
  · exact .inl ⟨h1, v, hb, ho', hne⟩
  · exact .inr ⟨h1, v, hb, ho', hne⟩
/-- the bytes, as a string -/
theorem bld_string (B b : Nat) (l : List Nat) (v : Value) (w : World) (h : Bld w B b l v) (hl : ∀ x ∈ l, x < 256) (hB : B ≤ w.heap.size) :
    Calls Tryd.prog 38 #[.pointer (some ⟨b, 0, none⟩)] w fun e w' => e = .returned (.string ⟨(toBytes l).toArray⟩) ∧ Below B w w' :=
  Tryd.Builder_String_any B b (toBytes l) w (h.is hl) hB
theorem info_builder : (Tryd.prog.info? 76).map (·.size) = some 2 := by kernel_rfl
theorem lies_builder : liesAt Tryd.prog Tryd.prog.depth 76 (2 / Tryd.prog.cellsOf 76) 0 76 1 = true := by kernel_rfl
/-- behind copyCheck the builder knows its own place -/
theorem copy_check (B b : Nat) (l : List Nat) (v : Value) (w : World) (h : Bld w B b l v) :
    Calls Tryd.prog 103 #[.pointer (some ⟨b, 0, none⟩)] w fun e w' => e = .returned (.tuple #[]) ∧ Bld w' B b l v ∧ Wrote B b w v w' v ∧ w'.heap[b]? = some (.cells #[.pointer (some ⟨b, 0, none⟩), v] 76 (0, 0)) := by
  obtain ⟨j, hj, hjs⟩ := Option.map_eq_some_iff.1 info_builder
  have hne := h.ownNe
  obtain ⟨h1, ⟨p, hp, hb⟩, ho⟩ := h
  have hfz : w.frozen? ⟨b, 0, none⟩ = false := Lib.frozen_of_heap hb 0
  have hsh : w.shape? b = some (76, 2) := by simp [World.shape?, hb]
  have h0 : w.cell? ⟨b, 0, none⟩ = some p := by rw [Lib.cell_of_heap hb]; rfl
  rcases hp with rfl | rfl
  · have hb' : (w.setCell ⟨b, 0, none⟩ (.pointer (some ⟨b, 0, none⟩))).heap[b]? = some (.cells #[.pointer (some ⟨b, 0, none⟩), v] 76 (0, 0)) := by
      simp [World.setCell, Array.getElem?_modify, hb]
    have ho' : (w.setCell ⟨b, 0, none⟩ (.pointer (some ⟨b, 0, none⟩))).ownsRow B 5 1 v l.length (l.map u8v) :=
      ho.kept (row := some b) ⟨rfl, rfl, rfl, by simp [World.setCell], fun k _ hk => Below.heap_setCell _ _ _ _ (fun e => hk (by simp [e]))⟩ (.inr hne)
    have hw : Wrote B b w v (w.setCell ⟨b, 0, none⟩ (.pointer (some ⟨b, 0, none⟩))) v :=
      ⟨(Below.refl B w).setCell (p := ⟨b, 0, none⟩) h1 _, fun k _ hk _ => Below.heap_setCell _ _ _ _ hk, .inl rfl⟩
    have hfin := Lib.hid (And.intro (show Bld (w.setCell ⟨b, 0, none⟩ (.pointer (some ⟨b, 0, none⟩))) B b l v from ⟨h1, ⟨_, .inr rfl, hb'⟩, ho'⟩) (And.intro hw hb'))
    clear ho ho' hw hb' hne hb
    go_enter Tryd.func103, Tryd.ntmps103
    go_wp2
    rw [Lib.run_to_unsafe w ⟨b, 0, none⟩ Tryd.underlying74 Tryd.underlying143 hj (by rw [hjs]; decide) hsh (Nat.zero_lt_succ 1)]
    simp only [Result.andThen]
    rw [Oper.upon_value]
    go_wp2
    rw [run_callFunc_extern Tryd.func112 (by kernel_rfl) (by kernel_rfl) (by kernel_rfl) (e := Extern.AbiNoEscape.same) (by kernel_rfl)]
    rw [Lib.run_noEscape]
    simp only [Result.andThen]
    rw [Oper.upon_value]
    go_wp2
    rw [Lib.run_from_unsafe w ⟨b, 0, none⟩ Tryd.underlying143 Tryd.underlying74 hj hsh lies_builder]
    simp only [Result.andThen]
    rw [Oper.upon_value]
    go_wp2
    go_end0
    exact ⟨rfl, hfin.out⟩
  · have hfin := Lib.hid (And.intro (show Bld w B b l v from ⟨h1, ⟨_, .inr rfl, hb⟩, ho⟩) (And.intro (Wrote.refl B b w v) hb))
    clear ho hne hb
    go_enter Tryd.func103, Tryd.ntmps103
    go_wp2
    rw [Lib.run_neq_ptr_same w _ Tryd.underlying74 hj]
    go_wp2
    go_end0
    exact ⟨rfl, hfin.out⟩
/-- append of bytes: the buffer stays where it is, or is a new block -/
theorem append_fresh {w : World} {B n m c : Nat} {v : Value} {xs news : List Value} {ad : Addr} (hown : w.ownsRow B 5 1 v n xs) (hl : news.length = m) (h0 : m ≠ 0) (hnews : ∀ j u, news[j]? = some u → w.cell? (ad.add j) = some u) (h1 : ∀ u ∈ news, u.oneCell' = true)
    (hn : n + m ≤ 140737488355328) (hB : B ≤ w.heap.size) (ty : TypeId) :
    ∃ v' w', (Builtin.append_ #[59, 59] ty #[v, .slice (some ad) m c]).run Tryd.prog w = .ok v' w' ∧ w'.ownsRow B 5 1 v' (n + m) (xs ++ news) ∧ w.grownBy w' v.ownBlock ∧ (v'.ownBlock = v.ownBlock ∨ ∃ g, v'.ownBlock = some g ∧ w.heap.size ≤ g) := by
  obtain ⟨i0, hi, hz0, hz1, hz2⟩ := info_parts info_u8
  obtain ⟨v', w', hr, h2, h3, _⟩ := run_append_own (P := Tryd.prog) w B 59 ty 5 i0 (.int .u8 0) 1 1 Tryd.underlying59 hi hz0 hz1 hz2 rfl (by decide) v n xs hown ad m c news (by omega) hnews h1 (by unfold maxLen; omega) (by omega) hB
  refine ⟨v', w', hr, h2, h3, ?_⟩
  rcases hown.2 with ⟨rfl, rfl⟩ | ⟨g, cap, cur, rfl, _, hg, hnc, hcm, hcs, _⟩
  · have hr2 := run_append_nil (P := Tryd.prog) w 59 ty 5 i0 (.int .u8 0) Tryd.underlying59 hi hz0 ad m c news (by rw [hz1]; omega) hnews (by omega) (by omega) (by rw [hz2]; omega)
    rw [hr] at hr2
    injection hr2 with e _
    rw [e]
    exact .inr ⟨_, rfl, Nat.le_refl _⟩
  · by_cases hroom : n + m ≤ cap
    · have hr2 := run_append_room (P := Tryd.prog) w 59 ty 5 i0 Tryd.underlying59 hi g n cap cur hg ad m c news (by rw [hz1]; omega) hnews h1 hroom (by rw [hz1, hl, hcs]; omega)
      rw [hr] at hr2
      injection hr2 with e _
      rw [e]
      exact .inl rfl
    · have hr2 := run_append_grow (P := Tryd.prog) w 59 ty 5 i0 (.int .u8 0) Tryd.underlying59 hi hz0 ⟨g, 0, none⟩ n cap xs (by rw [hown.1, hz1]) (hown.cells (g := g) rfl) ad m c news (by rw [hz1]; omega) hnews (by omega) (by omega) (growslice_fits (by omega) (by rw [hz2]; omega))
      rw [hr] at hr2
      injection hr2 with e _
      rw [e]
      exact .inr ⟨_, rfl, Nat.le_refl _⟩
theorem append_fresh_string {w : World} {B n : Nat} {v : Value} {xs : List Value} (s : ByteArray) (hown : w.ownsRow B 5 1 v n xs) (hn : n + s.size ≤ 140737488355328) (hB : B ≤ w.heap.size) (ty : TypeId) :
    ∃ v' w', (Builtin.append_ #[59, 9] ty #[v, .string s]).run Tryd.prog w = .ok v' w' ∧ w'.ownsRow B 5 1 v' (n + s.size) (xs ++ Lib.strCells s) ∧ w.grownBy w' v.ownBlock ∧ (v'.ownBlock = v.ownBlock ∨ ∃ g, v'.ownBlock = some g ∧ w.heap.size ≤ g) := by
  obtain ⟨i0, hi, hz0, hz1, hz2⟩ := info_parts info_u8
  obtain ⟨v', w', hr, h2, h3, h4⟩ := Lib.run_append_own_string (P := Tryd.prog) w B 59 9 ty 5 i0 Tryd.underlying59 Tryd.underlying9 hi hz0 hz1 hz2 v n xs hown s (by unfold maxLen; omega) hn hB
  refine ⟨v', w', hr, h2, h3, ?_⟩
  rcases hown.2 with ⟨rfl, rfl⟩ | ⟨g, cap, cur, rfl, _, hg, hnc, hcm, hcs, _⟩
  · by_cases h0 : s.size = 0
    · rw [h4.2 ⟨rfl, h0⟩]; exact .inl rfl
    · have hr2 := run_append_nil_string (P := Tryd.prog) w 59 9 ty 5 i0 (.int .u8 0) Tryd.underlying59 Tryd.underlying9 hi hz0 s (by omega) (by omega) (by rw [hz2]; omega)
      rw [hr] at hr2
      injection hr2 with e _
      rw [e]
      exact .inr ⟨_, rfl, Nat.le_refl _⟩
  · by_cases hroom : n + s.size ≤ cap
    · have hr2 := Lib.run_append_room_string (P := Tryd.prog) w 59 9 ty 5 i0 Tryd.underlying59 Tryd.underlying9 hi hz1 g n cap cur hg s hroom (by omega)
      rw [hr] at hr2
      injection hr2 with e _
      rw [e]
      exact .inl rfl
    · have hr2 := Lib.run_append_grow_string (P := Tryd.prog) w 59 9 ty 5 i0 (.int .u8 0) Tryd.underlying59 Tryd.underlying9 hi hz0 ⟨g, 0, none⟩ n cap xs (by rw [hown.1, hz1]) (hown.cells (g := g) rfl) s (by omega) (by omega) (growslice_fits (by omega) (by rw [hz2]; omega))
      rw [hr] at hr2
      injection hr2 with e _
      rw [e]
      exact .inr ⟨_, rfl, Nat.le_refl _⟩
/-- the two as steps of a walk -/
theorem wpList_append_byte {ops : Array Oper} {rest : List Oper} {o : Oper} {a : Act} {w : World} {Q : Exit → Act → World → Prop} (hgd : o.guard = none) (s x : Operand)
    (ho : o.op = .call { callee := .builtin .append, args := #[s, x], argTypes := #[59, 59] }) (B n c : Nat) (v : Value) (xs : List Value) (ad : Addr) (z : Nat) (hs : a.eval s = v) (hx : a.eval x = .slice (some ad) 1 c)
    (hown : w.ownsRow B 5 1 v n xs) (hz : w.cell? ad = some (u8v z)) (hn : n + 1 ≤ 140737488355328) (hB : B ≤ w.heap.size)
    (h : ∀ v' w', w'.ownsRow B 5 1 v' (n + 1) (xs ++ [u8v z]) → w.grownBy w' v.ownBlock → (v'.ownBlock = v.ownBlock ∨ ∃ g, v'.ownBlock = some g ∧ w.heap.size ≤ g) → wpList Tryd.prog ops Q rest (a.put o.dst v') w') : wpList Tryd.prog ops Q (o :: rest) a w := by
  obtain ⟨v', w', hr, h2, h3, h4⟩ := append_fresh (c := c) (m := 1) (news := [u8v z]) (ad := ad) hown rfl (by decide) (fun j u hj => by
    match j, hj with
    | 0, hj => simp at hj; subst hj; have e : ad.add 0 = ad := by cases ad; simp [Addr.add]
               rw [e]; exact hz) (fun u hu => by simp at hu; subst hu; rfl) hn hB o.type
  refine wpList_plain hgd fun _ hK => ?_
  unfold Oper.wp execOp
  simp only [ho, resolve, invoke, builtin, Sem.run_bind, Sem.run_pure, Result.andThen_ok, List.map_toArray, List.map_cons, List.map_nil, hs, hx, hr]
  exact hK _ _ (h v' w' h2 h3 h4)
theorem wpList_append_text {ops : Array Oper} {rest : List Oper} {o : Oper} {a : Act} {w : World} {Q : Exit → Act → World → Prop} (hgd : o.guard = none) (s x : Operand)
    (ho : o.op = .call { callee := .builtin .append, args := #[s, x], argTypes := #[59, 9] }) (B n : Nat) (v : Value) (xs : List Value) (t : ByteArray) (hs : a.eval s = v) (hx : a.eval x = .string t)
    (hown : w.ownsRow B 5 1 v n xs) (hn : n + t.size ≤ 140737488355328) (hB : B ≤ w.heap.size)
    (h : ∀ v' w', w'.ownsRow B 5 1 v' (n + t.size) (xs ++ Lib.strCells t) → w.grownBy w' v.ownBlock → (v'.ownBlock = v.ownBlock ∨ ∃ g, v'.ownBlock = some g ∧ w.heap.size ≤ g) → wpList Tryd.prog ops Q rest (a.put o.dst v') w') : wpList Tryd.prog ops Q (o :: rest) a w := by
  obtain ⟨v', w', hr, h2, h3, h4⟩ := append_fresh_string t hown hn hB o.type
  refine wpList_plain hgd fun _ hK => ?_
  unfold Oper.wp execOp
  simp only [ho, resolve, invoke, builtin, Sem.run_bind, Sem.run_pure, Result.andThen_ok, List.map_toArray, List.map_cons, List.map_nil, hs, hx, hr]
  exact hK _ _ (h v' w' h2 h3 h4)
theorem owns_form2 {w : World} {base : Nat} {e : TypeId} {size : Nat} {v : Value} {n : Nat} {xs : List Value} (h : w.ownsRow base e size v n xs) : ∃ a cap, v = .slice a n cap := owns_form h
/-- the new buffer in its place -/
theorem wrote_end {B b : Nat} {w w1 w2 : World} {l m : List Nat} {p v v' : Value} (hp : p = .pointer (some ⟨b, 0, none⟩)) (hw1 : Wrote B b w v w1 v) (h1 : Bld w1 B b l v) (hb1 : w1.heap[b]? = some (.cells #[p, v] 76 (0, 0)))
    (ho : w2.ownsRow B 5 1 v' m.length (m.map u8v)) (hg : w1.grownBy w2 v.ownBlock) (hf : v'.ownBlock = v.ownBlock ∨ ∃ g, v'.ownBlock = some g ∧ w1.heap.size ≤ g) (hB : B ≤ w1.heap.size) :
    Bld (w2.setCell ⟨b, 1, none⟩ v') B b m v' ∧ Wrote B b w v (w2.setCell ⟨b, 1, none⟩ v') v' := by
  have hlt := h1.lt
  have hb2 : w2.heap[b]? = some (.cells #[p, v] 76 (0, 0)) := (hg.block b hlt (fun e => h1.ownNe e.symm)).trans hb1
  have hput := Lib.BuilderAt.put (T := 76) (e := 5) (p := p) (bs' := m.map u8v) h1.1 hb2 (by rw [List.length_map]; exact ho) (by decide)
  refine ⟨?_, hw1.trans ⟨?_, fun k hk hkb hv => ?_, hf⟩⟩
  · obtain ⟨k1, v2, k2, k3, _⟩ := hput
    have e : (w2.setCell ⟨b, 1, none⟩ v').heap[b]? = some (.cells #[p, v'] 76 (0, 0)) := by simp [World.setCell, Array.getElem?_modify, hb2]
    rw [e] at k2
    injection k2 with k2
    injection k2 with k2 _ _
    have k2 : v' = v2 := by simpa using k2
    subst k2
    rw [List.length_map] at k3
    exact ⟨k1, ⟨p, .inr hp, e⟩, k3⟩
  · exact ((Below.refl B w1).grown hg hB (fun k hk => (h1.2.2.lt k hk).1)).setCell (p := ⟨b, 1, none⟩) h1.1 _
  · rw [Below.heap_setCell _ _ _ _ hkb, hg.block k hk (fun e => hv e.symm)]
theorem write_byte (B b : Nat) (l : List Nat) (v : Value) (z : Nat) (w : World) (h : Bld w B b l v) (hl : l.length + 1 ≤ 140737488355328) (hB : B ≤ w.heap.size) :
    Calls Tryd.prog 83 #[.pointer (some ⟨b, 0, none⟩), .int .u8 z] w fun e w' => e = .returned .nilIface ∧ ∃ v', Bld w' B b (l ++ [z]) v' ∧ Wrote B b w v w' v' := by
  go_enter Tryd.func83, Tryd.ntmps83
  go_wp2_with (go_at_call 103; refine (copy_check B b l v _ h).mono ?_)
  rintro e w1 ⟨rfl, h1, hw1, hb1⟩
  obtain ⟨a0, cap0, rfl⟩ := owns_form h1.2.2
  have c0 : w1.cell? ⟨b, 0, none⟩ = some (.pointer (some ⟨b, 0, none⟩)) := by rw [Lib.cell_of_heap hb1]; rfl
  have c1 : w1.cell? ⟨b, 1, none⟩ = some (.slice a0 l.length cap0) := by rw [Lib.cell_of_heap hb1]; rfl
  have hB1 : B ≤ w1.heap.size := Nat.le_trans hB hw1.below.size
  have hlt := h1.lt
  have HW1 := Lib.hid hw1
  have H1 := Lib.hid h1
  have Hb1 := Lib.hid hb1
  clear hw1 h1 hb1 h
  go_wp2_with (at_builtin; refine wpList_append_byte rfl _ _ rfl B l.length 1 _ (l.map u8v) ⟨w1.heap.size, 0, none⟩ z rfl rfl (H1.out.alloc _).2.2 (by simp [u8v]) hl (by simp; omega) ?_)
  intro v' w2 ho hg hf
  have hw2 : Wrote B b w (.slice a0 l.length cap0) (w1.alloc (.cells #[.int .u8 z] 5)) (.slice a0 l.length cap0) := HW1.out.trans (Wrote.alloc _ hB1 _)
  have hend := wrote_end (m := l ++ [z]) rfl hw2 (H1.out.alloc _) ((Below.heap_alloc w1 _ b hlt).trans Hb1.out) (by simpa using ho) hg (by simpa using hf) (by simp; omega)
  have hb2 : w2.heap[b]? = some (.cells #[.pointer (some ⟨b, 0, none⟩), .slice a0 l.length cap0] 76 (0, 0)) := (hg.block b (by simp; omega) (fun e => H1.out.ownNe e.symm)).trans ((Below.heap_alloc w1 _ b hlt).trans Hb1.out)
  have d1 : w2.cell? ⟨b, 1, none⟩ = some (.slice a0 l.length cap0) := by rw [Lib.cell_of_heap hb2]; rfl
  have f1 : w2.frozen? ⟨b, 1, none⟩ = false := Lib.frozen_of_heap hb2 1
  obtain ⟨a', cap', rfl⟩ := owns_form ho
  have Hend := Lib.hid hend
  clear hw2 hend hg hf ho hb2
  go_wp2
  go_ret
  exact ⟨rfl, _, Hend.out⟩
theorem strCells_nats (s : ByteArray) : Lib.strCells s = (nats s).map u8v := by
  unfold Lib.strCells nats
  rw [List.map_map]
  rfl
theorem write_text (B b : Nat) (l : List Nat) (v : Value) (s : ByteArray) (w : World) (h : Bld w B b l v) (hl : l.length + s.size ≤ 140737488355328) (hB : B ≤ w.heap.size) :
    Calls Tryd.prog 69 #[.pointer (some ⟨b, 0, none⟩), .string s] w fun e w' => e = .returned (.tuple #[.int .i64 s.size, .nilIface]) ∧ ∃ v', Bld w' B b (l ++ nats s) v' ∧ Wrote B b w v w' v' := by
  go_enter Tryd.func69, Tryd.ntmps69
  go_wp2_with (go_at_call 103; refine (copy_check B b l v _ h).mono ?_)
  rintro e w1 ⟨rfl, h1, hw1, hb1⟩
  obtain ⟨a0, cap0, rfl⟩ := owns_form h1.2.2
  have c0 : w1.cell? ⟨b, 0, none⟩ = some (.pointer (some ⟨b, 0, none⟩)) := by rw [Lib.cell_of_heap hb1]; rfl
  have c1 : w1.cell? ⟨b, 1, none⟩ = some (.slice a0 l.length cap0) := by rw [Lib.cell_of_heap hb1]; rfl
  have hB1 : B ≤ w1.heap.size := Nat.le_trans hB hw1.below.size
  have hlt := h1.lt
  have HW1 := Lib.hid hw1
  have H1 := Lib.hid h1
  have Hb1 := Lib.hid hb1
  clear hw1 h1 hb1 h
  go_wp2_with (at_builtin; refine wpList_append_text rfl _ _ rfl B l.length _ (l.map u8v) s rfl rfl H1.out.2.2 hl hB1 ?_)
  intro v' w2 ho hg hf
  have hend := wrote_end (m := l ++ nats s) rfl HW1.out H1.out Hb1.out (by rw [strCells_nats, ← List.map_append] at ho; rw [List.length_append, nats_length]; exact ho) hg hf hB1
  have hb2 : w2.heap[b]? = some (.cells #[.pointer (some ⟨b, 0, none⟩), .slice a0 l.length cap0] 76 (0, 0)) := (hg.block b hlt (fun e => H1.out.ownNe e.symm)).trans Hb1.out
  have d1 : w2.cell? ⟨b, 1, none⟩ = some (.slice a0 l.length cap0) := by rw [Lib.cell_of_heap hb2]; rfl
  have f1 : w2.frozen? ⟨b, 1, none⟩ = false := Lib.frozen_of_heap hb2 1
  obtain ⟨a', cap', rfl⟩ := owns_form ho
  have Hend := Lib.hid hend
  clear hend hg hf ho hb2
  go_wp2
  go_ret2
  exact ⟨rfl, _, Hend.out⟩
end Go.Proofs.YtjkhmmdjgancmaaDoor
/-! print.Set, walked: single, writeIf, writeRun, items, Set. -/
namespace Go.Proofs.YtjkhmmdjgancmaaDoor
set_option maxRecDepth 100000
open Go.RowKit

set_option maxHeartbeats 1000000 in
theorem writeIf_walk (B b : Nat) (l : List Nat) (v : Value) (s : BitVec 256) (z : Nat) (hz : z < 256) (w : World) (h : Bld w B b l v) (hl : l.length + 1 ≤ 140737488355328) (hB : B ≤ w.heap.size) :
    Calls Tryd.prog 46 #[.pointer (some ⟨b, 0, none⟩), SV s, .int .u8 z] w fun e w' => e = .returned (.tuple #[]) ∧ ∃ v', Bld w' B b (l ++ ifT s z) v' ∧ Wrote B b w v w' v' := by
  have hhas := has_any s z hz
  unfold ifT
  cases hs : s.getLsbD z
  · rw [hs] at hhas
    go_enter Tryd.func46, Tryd.ntmps46
    go_wp2_with fail
    refine (hhas _).mono ?_
    rintro e w1 ⟨rfl, hb1⟩
    have H1 := Lib.hid ((h.alloc _).later hb1)
    have W1 := Lib.hid ((Wrote.alloc (B := B) (b := b) v hB _).trans (Wrote.later v hb1 (by simp; omega)))
    clear hb1 h hhas
    go_wp2_with fail
    go_end0
    exact ⟨rfl, v, by simpa using H1.out, W1.out⟩
  · rw [hs] at hhas
    go_enter Tryd.func46, Tryd.ntmps46
    go_wp2_with fail
    refine (hhas _).mono ?_
    rintro e w1 ⟨rfl, hb1⟩
    have hB1 : B ≤ w1.heap.size := by have := hb1.size; simp at this; omega
    have H1 := Lib.hid ((h.alloc _).later hb1)
    have W1 := Lib.hid ((Wrote.alloc (B := B) (b := b) v hB _).trans (Wrote.later v hb1 (by simp; omega)))
    clear hb1 h hhas
    go_wp2_with fail
    refine (write_byte B b l v z _ H1.out hl hB1).mono ?_
    rintro e w2 ⟨rfl, v2, h2, hw2⟩
    have H2 := Lib.hid (And.intro h2 (W1.out.trans hw2))
    clear h2 hw2
    go_wp2_with fail
    go_end0
    exact ⟨rfl, v2, H2.out⟩
set_option maxHeartbeats 1000000 in
theorem writeRun_walk (B b : Nat) (l : List Nat) (v : Value) (lo hi : Nat) (hlh : lo ≤ hi) (hhi : hi < 256) (w : World) (h : Bld w B b l v) (hl : l.length + 3 ≤ 140737488355328) (hB : B ≤ w.heap.size) :
    Calls Tryd.prog 49 #[.pointer (some ⟨b, 0, none⟩), .agg #[.int .u8 lo, .int .u8 hi]] w fun e w' => e = .returned (.tuple #[]) ∧ ∃ v', Bld w' B b (l ++ runT (lo, hi)) v' ∧ Wrote B b w v w' v' := by
  have hsub : IntKind.u8.wrap ((hi : Int) - (lo : Int)) = ((hi - lo : Nat) : Int) := by rw [IntKind.wrap_u8]; omega
  obtain ⟨d, hd⟩ : ∃ d : Int, d = ((hi - lo : Nat) : Int) := ⟨_, rfl⟩
  rw [← hd] at hsub
  obtain ⟨W, hW⟩ : ∃ W, W = w.alloc (.cells #[.int .u8 lo, .int .u8 hi] 93) := ⟨_, rfl⟩
  have hk : W.heap[w.heap.size]? = some (.cells #[.int .u8 lo, .int .u8 hi] 93 (0, 0)) := by rw [hW]; exact World.alloc_heap_new w _
  have hWs : W.heap.size = w.heap.size + 1 := by rw [hW]; simp
  have h1 : Bld W B b l v := by rw [hW]; exact h.alloc _
  have w1 : Wrote B b w v W v := by rw [hW]; exact Wrote.alloc v hB _
  have hb : w.heap.size ≠ b := by have := h.lt; omega
  have c0 : W.cell? ⟨w.heap.size, 0, none⟩ = some (.int .u8 lo) := by rw [Lib.cell_of_heap hk]; rfl
  have HK := Lib.hid hk
  have H1 := Lib.hid h1
  have W1 := Lib.hid w1
  have HWs := Lib.hid hWs
  have HD := Lib.hid hd
  clear hk h1 w1 hWs hd h
  -- behind each write the run's box is as it was
  have hstep : ∀ (w' : World) (v' : Value), Wrote B b W v w' v' → w'.heap[w.heap.size]? = some (.cells #[.int .u8 lo, .int .u8 hi] 93 (0, 0)) := fun w' v' hw => by
    rw [hw.keep w.heap.size (by rw [HWs.out]; omega) hb (H1.out.ownKind HK.out (by decide))]; exact HK.out
  have Hstep := Lib.hid hstep
  clear hstep
  go_enter Tryd.func49, Tryd.ntmps49
  go_wp2_with fail
  rw [← hW]
  clear hW
  go_wp2_with fail
  refine (write_byte B b l v lo _ H1.out (by omega) (by rw [HWs.out]; omega)).mono ?_
  rintro e w2 ⟨rfl, v2, h2, hw2⟩
  have k2 := Hstep.out _ _ hw2
  have c20 : w2.cell? ⟨w.heap.size, 0, none⟩ = some (.int .u8 lo) := by rw [Lib.cell_of_heap k2]; rfl
  have c21 : w2.cell? ⟨w.heap.size, 1, none⟩ = some (.int .u8 hi) := by rw [Lib.cell_of_heap k2]; rfl
  have HW2 := Lib.hid hw2
  have H2 := Lib.hid h2
  have hB2 : B ≤ w2.heap.size := by have := hw2.below.size; rw [HWs.out] at this; omega
  clear k2 hw2 h2
  by_cases e0 : hi = lo
  · have eT : runT (lo, hi) = [lo] := by simp [runT, e0]
    have d1 : ¬ d > 1 := by rw [HD.out]; omega
    have d2 : ¬ ((hi : Int) > lo) := by omega
    have HT := Lib.hid eT
    clear e0 eT
    go_wp2_with fail
    go_end0
    exact ⟨rfl, v2, by rw [HT.out]; exact H2.out, W1.out.trans HW2.out⟩
  · by_cases e1 : hi = lo + 1
    · have eT : runT (lo, hi) = [lo, hi] := by simp [runT, e1]
      have d1 : ¬ d > 1 := by rw [HD.out]; omega
      have d2 : ((hi : Int) > lo) := by omega
      have HT := Lib.hid eT
      clear e1 e0 eT
      go_wp2_with fail
      refine (write_byte B b _ v2 hi _ H2.out (by simp; omega) hB2).mono ?_
      rintro e w3 ⟨rfl, v3, h3, hw3⟩
      have H3 := Lib.hid h3
      have HW3 := Lib.hid hw3
      clear h3 hw3
      go_wp2_with fail
      go_end0
      exact ⟨rfl, v3, by rw [HT.out]; simpa using H3.out, (W1.out.trans HW2.out).trans HW3.out⟩
    · have eT : runT (lo, hi) = [lo, 45, hi] := by unfold runT; rw [if_pos (by simp only; omega), if_pos (by simp only; omega)]; rfl
      have d1 : d > 1 := by rw [HD.out]; omega
      have d2 : ((hi : Int) > lo) := by omega
      have HT := Lib.hid eT
      clear e1 e0 eT
      go_wp2_with fail
      refine (write_byte B b _ v2 45 _ H2.out (by simp; omega) hB2).mono ?_
      rintro e w3 ⟨rfl, v3, h3, hw3⟩
      have k3 := Hstep.out _ _ (HW2.out.trans hw3)
      have c30 : w3.cell? ⟨w.heap.size, 0, none⟩ = some (.int .u8 lo) := by rw [Lib.cell_of_heap k3]; rfl
      have c31 : w3.cell? ⟨w.heap.size, 1, none⟩ = some (.int .u8 hi) := by rw [Lib.cell_of_heap k3]; rfl
      have H3 := Lib.hid h3
      have HW3 := Lib.hid hw3
      have hB3 : B ≤ w3.heap.size := Nat.le_trans hB2 hw3.below.size
      clear h3 hw3 k3
      go_wp2_with fail
      refine (write_byte B b _ v3 hi _ H3.out (by simp; omega) hB3).mono ?_
      rintro e w4 ⟨rfl, v4, h4, hw4⟩
      have H4 := Lib.hid h4
      have HW4 := Lib.hid hw4
      clear h4 hw4
      go_wp2_with fail
      go_end0
      exact ⟨rfl, v4, by rw [HT.out]; simpa using H4.out, ((W1.out.trans HW2.out).trans HW3.out).trans HW4.out⟩
end Go.Proofs.YtjkhmmdjgancmaaDoor
/-! print.items, walked. -/
namespace Go.Proofs.YtjkhmmdjgancmaaDoor
set_option maxRecDepth 100000
open Go.RowKit
def cDC : BitVec 256 := setOf [45, 94]
/-- the bytes of the text, in a string -/
def TextIs (w : World) (T : List Nat) (e : Ending) (w' : World) : Prop := (∃ t : ByteArray, e = .returned (.string t) ∧ nats t = T) ∧ Below w.heap.size w w'
theorem bytesAt_drew {w : World} {a : Option Addr} {n cap : Nat} {l : List Nat} (h : BytesAt w a n cap l) : BytesAt w.drew a n cap l := h
set_option maxHeartbeats 4000000 in
theorem items_dc (w : World) : Calls Tryd.prog 24 #[SV cDC] w (TextIs w [45, 94]) := by
  have hof := fun (a : Option Addr) (cap : Nat) (w : World) h => of_any a 2 cap [45, 94] w h
  rw [show setOf [45, 94] = cDC from rfl] at hof
  have heq := fun w => eql_set cDC cDC w
  rw [show decide (cDC = cDC) = true from rfl] at heq
  generalize cDC = S at *
  go_enter Tryd.func24, Tryd.ntmps24
  go_wp2_with fail
  go_region_with (first
    | (go_at_call 18; refine (hof _ _ _ (by first | exact bytesAt_drew (bytesAt_new [45, 94] (by decide) (by decide) rfl (by simp) rfl (by decide)) | exact bytesAt_new [45, 94] (by decide) (by decide) rfl (by simp) rfl (by decide))).mono ?_; rintro e w1 ⟨rfl, hb1⟩; have hc1 : ∀ o, w1.cell? ⟨w.heap.size, o, none⟩ = _ := fun o => hb1.cell (p := ⟨w.heap.size, o, none⟩) (by simp; omega)))
  all_goals
    go_wp2_with fail
    go_ret
    refine ⟨⟨_, rfl, rfl⟩, ?_⟩
    refine Below.trans ?_ (hb1.mono (by simp; omega))
    repeat (first | exact Below.refl _ _ | refine Below.drew ?_ | refine Below.alloc ?_ (by simp; try omega) _)
/-- the set of the bytes that stand apart: at first, and with '[' -/
def cA0 : BitVec 256 := setOf [93, 94, 45]
def cOpen : BitVec 256 := setOf [91]
theorem runs_row {w : World} {base : Nat} {a : Option Addr} {n cap : Nat} {rs : List (Nat × Nat)} (h : w.ownsRow base 93 2 (.slice a n cap) n (runCells rs)) (hn : n = rs.length) {k : Nat} (hk : k < n) :
    ∃ g, a = some ⟨g, 0, none⟩ ∧ base ≤ g ∧ (∃ cs, w.heap[g]? = some (.cells cs 93 (0, 0))) ∧ w.cell? ⟨g, k * 2, none⟩ = some (.int .u8 ((rs.getD k (0, 0)).1 : Int)) ∧ w.cell? ⟨g, k * 2 + 1, none⟩ = some (.int .u8 ((rs.getD k (0, 0)).2 : Int)) := by
  have hcell : ∀ (rs : List (Nat × Nat)) (k : Nat), k < rs.length → (runCells rs)[k * 2]? = some (.int .u8 ((rs.getD k (0, 0)).1 : Int)) ∧ (runCells rs)[k * 2 + 1]? = some (.int .u8 ((rs.getD k (0, 0)).2 : Int)) := by
    intro rs
    induction rs with
    | nil => intro k hk; simp at hk
    | cons r rs ih =>
      intro k hk
      have e : runCells (r :: rs) = u8v r.1 :: u8v r.2 :: runCells rs := rfl
      rw [e]
      cases k with
      | zero => exact ⟨rfl, rfl⟩
      | succ k =>
        have := ih k (by simpa using hk)
        rw [show (k + 1) * 2 + 1 = k * 2 + 1 + 1 + 1 from by omega, show (k + 1) * 2 = k * 2 + 1 + 1 from by omega]
        exact this
  obtain ⟨c1, c2⟩ := hcell rs k (by omega)
  have hlen := runCells_length rs
  rcases h.2 with ⟨_, h0⟩ | ⟨g, c, cur, hv, hg, hblk, _⟩
  · omega
  · cases hv
    refine ⟨g, rfl, hg, ⟨_, hblk⟩, ?_, ?_⟩
    · rw [h.cellAt _ (by omega), c1]
    · rw [h.cellAt _ (by omega), c2]
theorem core_lt (s : BitVec 256) : ∀ r ∈ coreRuns s, r.1 ≤ r.2 ∧ r.2 < 256 := by
  intro r hr
  obtain ⟨g1, _, g3⟩ := core_runs s
  have h := g1 r hr
  refine ⟨h.1, ?_⟩
  have : r.2 ∈ elems (s &&& ~~~apartOf s) := by rw [← g3]; exact List.mem_flatMap.2 ⟨r, hr, (upTo_mem _ _ _).2 ⟨h.1, Nat.le_refl _⟩⟩
  exact ((mem_elems _ _).1 this).1
theorem core_few (s : BitVec 256) (k : Nat) : (coreRuns s).length ≤ 256 ∧ (((coreRuns s).take k).flatMap runT).length ≤ 768 := by
  have h1 : (coreRuns s).length ≤ 256 := Nat.le_trans (runsOf_length _) (elems_length_le _)
  refine ⟨h1, ?_⟩
  have h2 : ∀ rs : List (Nat × Nat), (rs.flatMap runT).length ≤ 3 * rs.length := by
    intro rs
    induction rs with
    | nil => simp
    | cons r rs ih => have := runT_length r; rw [List.flatMap_cons, List.length_append, List.length_cons]; omega
  have := h2 ((coreRuns s).take k)
  have : ((coreRuns s).take k).length ≤ (coreRuns s).length := by rw [List.length_take]; omega
  omega
theorem ifT_le (s : BitVec 256) (b : Nat) : (ifT s b).length ≤ 1 := by unfold ifT; split <;> simp
theorem items_lt (s : BitVec 256) : ∀ x ∈ itemsT s, x < 256 := by
  intro x hx
  unfold itemsT at hx
  split at hx
  · simp at hx; omega
  · have hif : ∀ (s : BitVec 256) (b : Nat), b < 256 → x ∈ ifT s b → x < 256 := fun s b hb h => by
      unfold ifT at h; split at h
      · simp at h; omega
      · simp at h
    rcases List.mem_append.1 hx with hx | hx
    · exact hif _ 93 (by decide) hx
    rcases List.mem_append.1 hx with hx | hx
    · obtain ⟨r, hr, hx⟩ := List.mem_flatMap.1 hx
      have := core_lt s r hr
      unfold runT at hx
      rcases List.mem_cons.1 hx with rfl | hx
      · omega
      rcases List.mem_append.1 hx with hx | hx
      · split at hx <;> simp at hx; omega
      · split at hx <;> simp at hx; omega
    · unfold behindT at hx
      rcases List.mem_append.1 hx with hx | hx
      · exact hif _ 91 (by decide) hx
      rcases List.mem_append.1 hx with hx | hx
      · exact hif _ 94 (by decide) hx
      · exact hif _ 45 (by decide) hx
theorem nats_bytes {l : List Nat} (h : ∀ x ∈ l, x < 256) : nats ⟨(toBytes l).toArray⟩ = l := by
  unfold nats toBytes
  rw [List.toList_toArray, List.map_map]
  conv => rhs; rw [← List.map_id l]
  refine List.map_congr_left fun x hx => ?_
  have := h x hx
  simp [Nat.mod_eq_of_lt this]
/-- the bytes behind the runs, one by one -/
def behindTo (t : BitVec 256) (k : Nat) : List Nat := ([91, 94, 45].take k).flatMap (ifT t)
theorem behind_all (s : BitVec 256) : behindTo (s &&& apartOf s) 3 = behindT s := by
  unfold behindTo behindT
  simp
theorem behind_succ (t : BitVec 256) (k : Nat) (hk : k < 3) : behindTo t (k + 1) = behindTo t k ++ ifT t ([91, 94, 45].getD k 0) := by
  unfold behindTo
  have : k = 0 ∨ k = 1 ∨ k = 2 := by omega
  rcases this with rfl | rfl | rfl <;> simp
theorem behind_le (t : BitVec 256) (k : Nat) : (behindTo t k).length ≤ 3 := by
  have a := ifT_le t 91
  have b := ifT_le t 94
  have c := ifT_le t 45
  unfold behindTo
  match k with
  | 0 => simp
  | 1 => simp; omega
  | 2 => simp; omega
  | k + 3 => simp; omega
theorem store_four {w : World} {b : Nat} {s : BitVec 256} (t : BitVec 256) (h : SetAt w b s) : SetAt ((((w.setCell ⟨b, 0, none⟩ (.int .u64 (word t 0))).setCell ⟨b, 1, none⟩ (.int .u64 (word t 1))).setCell ⟨b, 2, none⟩ (.int .u64 (word t 2))).setCell ⟨b, 3, none⟩ (.int .u64 (word t 3))) b t := by
  unfold SetAt at h ⊢
  simp [World.setCell, Array.getElem?_modify, h]
theorem four_other {w : World} {b c : Nat} {s : BitVec 256} (x0 x1 x2 x3 : Value) (h : Set4 w c 0 s) (hne : c ≠ b) : Set4 ((((w.setCell ⟨b, 0, none⟩ x0).setCell ⟨b, 1, none⟩ x1).setCell ⟨b, 2, none⟩ x2).setCell ⟨b, 3, none⟩ x3) c 0 s := fun q hq => by
  have e : ∀ (w : World) (o : Nat) (x : Value), (w.setCell ⟨b, o, none⟩ x).cell? ⟨c, 0 + q, none⟩ = w.cell? ⟨c, 0 + q, none⟩ := fun w o x => World.cell?_of_block (Below.heap_setCell w ⟨b, o, none⟩ x c hne)
  rw [e, e, e, e]; exact h q hq
theorem four_below {B : Nat} {a w : World} {b : Nat} (x0 x1 x2 x3 : Value) (h : Below B a w) (hb : B ≤ b) : Below B a ((((w.setCell ⟨b, 0, none⟩ x0).setCell ⟨b, 1, none⟩ x1).setCell ⟨b, 2, none⟩ x2).setCell ⟨b, 3, none⟩ x3) :=
  (((h.setCell (p := ⟨b, 0, none⟩) hb _).setCell (p := ⟨b, 1, none⟩) hb _).setCell (p := ⟨b, 2, none⟩) hb _).setCell (p := ⟨b, 3, none⟩) hb _
theorem writeIf_lit (B b : Nat) (l : List Nat) (v : Value) (s : BitVec 256) (z : Nat) (a : Int) (ha : a = (z : Int)) (hz : z < 256) (w : World) (h : Bld w B b l v) (hl : l.length + 1 ≤ 140737488355328) (hB : B ≤ w.heap.size) :
    Calls Tryd.prog 46 #[.pointer (some ⟨b, 0, none⟩), SV s, .int .u8 a] w fun e w' => e = .returned (.tuple #[]) ∧ ∃ v', Bld w' B b (l ++ ifT s z) v' ∧ Wrote B b w v w' v' := by
  subst ha; exact writeIf_walk B b l v s z hz w h hl hB
set_option maxHeartbeats 8000000 in
theorem items_any (s : BitVec 256) (hsp : s ≠ cDC) (w : World) (hT : TabAt 0 Lib.deBruijn64tab w) : Calls Tryd.prog 24 #[SV s] w (TextIs w (itemsT s)) := by
  have eT : itemsT s = ifT s 93 ++ ((coreRuns s).flatMap runT ++ behindT s) := by unfold itemsT; rw [if_neg (show ¬ s = setOf [45, 94] from hsp)]
  have hTT := Lib.hid (And.intro eT (items_lt s))
  have hof := fun (a : Option Addr) (cap : Nat) (w : World) h => of_any a 2 cap [45, 94] w h
  rw [show setOf [45, 94] = cDC from rfl] at hof
  have heq := fun w => eql_set s cDC w
  rw [show decide (s = cDC) = false from by simpa using hsp] at heq
  have hof3 := fun (a : Option Addr) (cap : Nat) (w : World) h => of_any a 3 cap [93, 94, 45] w h
  rw [show setOf [93, 94, 45] = cA0 from rfl] at hof3
  have hof1 := fun (a : Option Addr) (cap : Nat) (w : World) h => of_any a 1 cap [91] w h
  rw [show setOf [91] = cOpen from rfl] at hof1
  have hAp : Hid (apartOf s = if s.getLsbD 90 then cA0 else cA0 ||| cOpen) := rfl
  clear eT hsp
  generalize cDC = S at *
  go_enter Tryd.func24, Tryd.ntmps24
  go_upto_region 1 with fail
  go_cut [12] from 9 to 11 (fun v wx => v = .bool false ∧ Set4 wx w.heap.size 0 s ∧ Below w.heap.size w wx)
  case first =>
    have hbox : Set4 (w.alloc (.cells #[.int .u64 (word s 0), .int .u64 (word s 1), .int .u64 (word s 2), .int .u64 (word s 3)] 24)) w.heap.size 0 s := (setAt_made w s).four
    go_region_with (first
      | (go_at_call 18; refine (hof _ _ _ (by first | exact bytesAt_drew (bytesAt_new [45, 94] (by decide) (by decide) rfl (by simp) rfl (by decide)) | exact bytesAt_new [45, 94] (by decide) (by decide) rfl (by simp) rfl (by decide))).mono ?_; rintro e w1 ⟨rfl, hb1⟩; have hc1 : ∀ o, w1.cell? ⟨w.heap.size, o, none⟩ = _ := fun o => hb1.cell (p := ⟨w.heap.size, o, none⟩) (by simp; omega)))
    all_goals
      go_wp2_with fail
      go_meet
      refine ⟨rfl, hbox.below (B := w.heap.size + 1) ?_ (by omega), ?_⟩
      · refine Below.trans ?_ (hb1.mono (by simp <;> omega))
        repeat (first | exact Below.refl _ _ | refine Below.drew ?_ | refine Below.alloc ?_ (by simp; try omega) _)
      · refine Below.trans ?_ (hb1.mono (by simp <;> omega))
        repeat (first | exact Below.refl _ _ | refine Below.drew ?_ | refine Below.alloc ?_ (by simp; try omega) _)
  case rest =>
    obtain ⟨rfl, hs1, hb0⟩ := hcut
    have hlt1 := hs1.lt
    have Hs1 := Lib.hid hs1
    have Hb0 := Lib.hid hb0
    clear hs1 hb0 hof heq
    go_wp2_with fail
    refine (hof3 _ _ _ (bytesAt_new [93, 94, 45] (by decide) (by decide) rfl rfl rfl (by decide))).mono ?_
    rintro e w2 ⟨rfl, hb2⟩
    have hw2 : Below wc.heap.size wc w2 := ((Below.refl _ _).alloc (Nat.le_refl _) _).trans (hb2.mono (by simp))
    have Hs2 := Lib.hid (Hs1.out.below hw2 hlt1)
    have Hb2 := Lib.hid (Hb0.out.trans (hw2.mono (Nat.le_of_lt hlt1)))
    have hlt2 : w.heap.size < w2.heap.size := Nat.lt_of_lt_of_le hlt1 hw2.size
    have Hlt2 := Lib.hid hlt2
    clear hb2 hw2 hof3 hlt1 hlt2
    -- the box of the bytes apart
    have Hn := Lib.hid (setAt_start w2 (.cells #[.int .u64 0, .int .u64 0, .int .u64 0, .int .u64 0] 24) rfl)
    have Hs2' := Lib.hid (Hs2.out.below ((Below.refl w2.heap.size w2).alloc (Nat.le_refl _) (.cells #[.int .u64 0, .int .u64 0, .int .u64 0, .int .u64 0] 24)) Hlt2.out)
    have Hb2' := Lib.hid (Hb2.out.alloc Hb2.out.size (.cells #[.int .u64 0, .int .u64 0, .int .u64 0, .int .u64 0] 24))
    go_wp2_with (first | (refine wpList_store_set rfl _ _ rfl w2.heap.size 0 cA0 rfl rfl Hn.out ?_; refine Hid.out ?_))
    refine Lib.hid ?_
    intro w3 hn3 ho3
    have Hs3 := Lib.hid (show Set4 w3 w.heap.size 0 s from fun q hq => by rw [ho3.cell (a := ⟨w.heap.size, 0 + q, none⟩) (Nat.ne_of_lt Hlt2.out)]; exact Hs2'.out q hq)
    have Hb3 := Lib.hid (ho3.below Hb2'.out (Nat.le_of_lt Hlt2.out))
    have hsz3 : w3.heap.size = w2.heap.size + 1 := by rw [ho3.size]; simp
    have Hsz3 := Lib.hid hsz3
    have Hn3 := Lib.hid hn3
    clear Hn Hs2' Hb2' ho3 hn3 hsz3 Hs2 Hs1 Hb0 Hb2
    have hh := has_lit s 90 90 rfl (by decide)
    obtain ⟨q, hq⟩ : ∃ q, q = s.getLsbD 90 := ⟨_, rfl⟩
    rw [← hq] at hh
    have hAp' := hAp.out
    rw [← hq] at hAp'
    have HAp := Lib.hid hAp'
    clear hAp hAp' hq
    go_upto_if 17 with (first | (refine wpList_load_set rfl _ rfl w.heap.size 0 s rfl Hs3.out ?_) | (go_at_call 44; refine (hh _).mono ?_; rintro e w4 ⟨rfl, hb4⟩; refine Hid.out ?_))
    refine Lib.hid ?_
    have Hs4 := Lib.hid (Hs3.out.below hb4 (by rw [Hsz3.out]; exact Nat.lt_succ_of_lt Hlt2.out))
    have Hn4 := Lib.hid (setAt_below Hn3.out hb4 (by rw [Hsz3.out]; omega))
    have Hb4 := Lib.hid (Hb3.out.trans (hb4.mono (by rw [Hsz3.out]; have := Hlt2.out; omega)))
    have hlt4 : w2.heap.size < w4.heap.size := by have := hb4.size; rw [Hsz3.out] at this; omega
    clear hb4
    go_upto_if 17 with fail
    go_cut [] from 18 to 21 (fun wx => SetAt wx w2.heap.size (apartOf s) ∧ Set4 wx w.heap.size 0 s ∧ Below w.heap.size w wx)
    case first =>
      cases q
      · have HAp' := Lib.hid (show apartOf s = cA0 ||| cOpen from HAp.out)
        clear HAp
        have m0 := Hn4.out.cell 0 (by decide)
        have m1 := Hn4.out.cell 1 (by decide)
        have m2 := Hn4.out.cell 2 (by decide)
        have m3 := Hn4.out.cell 3 (by decide)
        go_wp2_with fail
        go_region_with (first
          | (go_at_call 18; refine (hof1 _ _ _ (by first | exact bytesAt_drew (bytesAt_new [91] (by decide) (by decide) rfl (by simp) rfl (by decide)) | exact bytesAt_new [91] (by decide) (by decide) rfl (by simp) rfl (by decide))).mono ?_; rintro e w5 ⟨rfl, hb5⟩
             have hb5' := Lib.hid (show Below w4.heap.size w4 w5 from Below.trans (by repeat (first | exact Below.refl _ _ | refine Below.drew ?_ | refine Below.alloc ?_ (by simp) _)) (hb5.mono (by simp)))
             have r0 : ∀ o, w5.cell? ⟨w2.heap.size, o, none⟩ = w4.cell? ⟨w2.heap.size, o, none⟩ := fun o => hb5'.out.cell (p := ⟨w2.heap.size, o, none⟩) hlt4
             clear hb5)
          | (go_at_call 45; refine (or_any _ _ _).mono ?_; rintro e w6 ⟨rfl, hb6⟩
             have hb6' := Lib.hid (hb5'.out.trans (hb6.mono hb5'.out.size))
             have r1 : ∀ o, w6.cell? ⟨w2.heap.size, o, none⟩ = w4.cell? ⟨w2.heap.size, o, none⟩ := fun o => hb6'.out.cell (p := ⟨w2.heap.size, o, none⟩) hlt4
             have q1 : ∀ o, w6.frozen? ⟨w2.heap.size, o, none⟩ = false := fun o => (hb6'.out.frozen (p := ⟨w2.heap.size, o, none⟩) hlt4).trans (Hn4.out.free o)
             clear hb6))
        all_goals
          go_wp2_with fail
          go_meet
          refine ⟨by rw [HAp'.out]; exact store_four _ (setAt_below Hn4.out hb6'.out hlt4), four_other _ _ _ _ (Hs4.out.below hb6'.out (Nat.lt_trans Hlt2.out hlt4)) (Nat.ne_of_lt Hlt2.out), four_below _ _ _ _ (Hb4.out.trans (hb6'.out.mono (Nat.le_of_lt (Nat.lt_trans Hlt2.out hlt4)))) (Nat.le_of_lt Hlt2.out)⟩
      · have HAp' := Lib.hid (show apartOf s = cA0 from HAp.out)
        clear HAp
        go_wp2_with fail
        go_meet
        exact ⟨by rw [HAp'.out]; exact Hn4.out, Hs4.out, Hb4.out⟩
    case rest =>
      obtain ⟨hn5, hs5, hb5⟩ := hcut
      obtain ⟨w5, hw5⟩ : ∃ w5, w5 = wc := ⟨_, rfl⟩
      rw [← hw5] at hn5 hs5 hb5
      rw [← hw5]
      clear hw5 Hs4 Hn4 Hb4 hlt4 HAp Hs3 Hb3 Hsz3 Hn3 hof1
      have hlt5 : w.heap.size < w5.heap.size := hs5.lt
      have hltA := setAt_lt hn5
      have Hn5 := Lib.hid hn5.four
      have Hs5 := Lib.hid hs5
      have Hb5 := Lib.hid hb5
      have HltA := Lib.hid hltA
      clear hn5 hs5 hb5 hltA
      have HT := Lib.hid (tab_below hT Hb5.out (tab_pos hT))
      have Hs6 := Lib.hid (Hs5.out.below ((Below.refl w5.heap.size w5).alloc (Nat.le_refl _) (.cells #[.pointer none, .slice none 0 0] 76)) hlt5)
      have HltS := Lib.hid hlt5
      clear hT hlt5
      go_wp2_with (first | (refine wpList_load_set rfl _ rfl w.heap.size 0 s rfl Hs6.out ?_))
      refine (writeIf_lit w5.heap.size w5.heap.size [] (.slice none 0 0) s 93 93 rfl (by decide) _ (bld_fresh w5) (by decide) (by simp)).mono ?_
      rintro e w7 ⟨rfl, v7, h7, hw7⟩
      have hbl7 : Below w5.heap.size w5 w7 := ((Below.refl _ _).alloc (Nat.le_refl _) _).trans hw7.below
      have hsz7 : w5.heap.size < w7.heap.size := h7.lt
      have Hs7 := Lib.hid (Hs5.out.below hbl7 HltS.out)
      have Hn7 := Lib.hid (Hn5.out.below hbl7 HltA.out)
      have Hbl7 := Lib.hid hbl7
      have H7 := Lib.hid h7
      clear hw7 h7 hbl7 Hs6
      go_wp2_with (first | (refine wpList_load_set rfl _ rfl w.heap.size 0 s rfl Hs7.out ?_) | (refine wpList_load_set rfl _ rfl w2.heap.size 0 (apartOf s) rfl Hn7.out ?_))
      refine (minus_any _ _ _).mono ?_
      rintro e w8 ⟨rfl, hb8⟩
      have hsz8 : w5.heap.size < w8.heap.size := Nat.lt_of_lt_of_le hsz7 hb8.size
      have HT8 := Lib.hid (tab_below HT.out (Hbl7.out.trans (hb8.mono (Nat.le_of_lt hsz7))) (tab_pos HT.out))
      have Hb8 := Lib.hid hb8
      clear hb8
      go_wp2_with fail
      refine (runs_any _ _ HT8.out).mono ?_
      rintro e w9 ⟨vr, rfl, hown, hb9⟩
      obtain ⟨ar, cr, rfl⟩ := owns_form hown
      have hown : w9.ownsRow w8.heap.size 93 2 (.slice ar (coreRuns s).length cr) (coreRuns s).length (runCells (coreRuns s)) := hown
      show _
      have hbl9 : Below w7.heap.size w7 w9 := Hb8.out.trans (hb9.mono Hb8.out.size)
      have hbld9 := H7.out.later hbl9
      have hsz9 : w5.heap.size < w9.heap.size := Nat.lt_of_lt_of_le hsz7 hbl9.size
      have hb59 : Below w5.heap.size w5 w9 := Hbl7.out.trans (hbl9.mono (Nat.le_of_lt hsz7))
      have Hb59 := Lib.hid hb59
      have Hown := Lib.hid hown
      have Hbld9 := Lib.hid hbld9
      have Hsz8 := Lib.hid hsz8
      have Hsz9 := Lib.hid hsz9
      obtain ⟨n, hn⟩ : ∃ n, n = (coreRuns s).length := ⟨_, rfl⟩
      have hn' : (runsOf (elems (s &&& ~~~apartOf s))).length = n := hn.symm
      rw [hn']
      have HN := Lib.hid hn
      have hn256 : n ≤ 256 := by rw [hn]; exact (core_few s 0).1
      clear hn hn' hown hbld9 hb59 hbl9 hb9 Hb8 HT8 Hs7 Hn7 H7 Hbl7 hsz7 hsz8 hsz9
      go_wp2_with fail
      clear hown
      go_loopw [29] (fun i wr => ∃ (k : Nat) (v' : Value), k ≤ n ∧ i = .int .i64 k ∧ Bld wr w5.heap.size w5.heap.size (ifT s 93 ++ ((coreRuns s).take k).flatMap runT) v' ∧ Wrote w5.heap.size w5.heap.size w9 v7 wr v') (fun i _ => n - (intOf i).toNat)
      case atStart => exact ⟨0, v7, by omega, rfl, by simpa using Hbld9.out, Wrote.refl _ _ _ _⟩
      case round =>
        obtain ⟨k, v', hk, rfl, hbw, hww⟩ := hrel
        have hww' := hww
        by_cases hkn : k < n
        · have hd : decide ((k : Int) < n) = true := by simp; omega
          have hown := Hown.out
          rw [← HN.out] at hown
          obtain ⟨g, rfl, hg0, ⟨cs, hgk⟩, hlo, hhi⟩ := runs_row hown HN.out hkn
          have hgb : g ≠ w5.heap.size := by have := Hsz8.out; omega
          have hglt : g < w9.heap.size := lt_of_block hgk
          have hgo : v7.ownBlock ≠ some g := Hbld9.out.ownKind hgk (by decide)
          have hgw : wr.heap[g]? = w9.heap[g]? := hww.keep g hglt hgb hgo
          have hlo' : wr.cell? ⟨g, k * 2, none⟩ = _ := (World.cell?_of_block (a := ⟨g, k * 2, none⟩) hgw).trans hlo
          have hhi' : wr.cell? ⟨g, k * 2 + 1, none⟩ = _ := (World.cell?_of_block (a := ⟨g, k * 2 + 1, none⟩) hgw).trans hhi
          obtain ⟨r, hr⟩ : ∃ r, r = (coreRuns s).getD k (0, 0) := ⟨_, rfl⟩
          have hkn' : k < (coreRuns s).length := by rw [← HN.out]; exact hkn
          have hrm : r ∈ coreRuns s := by
            rw [hr, List.getD_eq_getElem?_getD, List.getElem?_eq_getElem hkn']; exact List.getElem_mem _
          obtain ⟨hr1, hr2⟩ := core_lt s r hrm
          have hnext : ifT s 93 ++ ((coreRuns s).take (k + 1)).flatMap runT = (ifT s 93 ++ ((coreRuns s).take k).flatMap runT) ++ runT r := by
            rw [List.take_succ_eq_append_getElem hkn', List.flatMap_append, hr, List.getD_eq_getElem?_getD, List.getElem?_eq_getElem hkn']
            simp
          have hfew := (core_few s k).2
          have hif := ifT_le s 93
          rw [← hr] at hlo' hhi'
          obtain ⟨lo, hi⟩ := r
          simp only at hr1 hr2 hlo' hhi'
          have hgl : g < wr.heap.size := Nat.lt_of_lt_of_le hglt hww.below.size
          have HX := Lib.hid hnext
          have Hfew := Lib.hid (And.intro hfew hif)
          have Hbw := Lib.hid hbw
          have Hww := Lib.hid hww
          have Hlt := Lib.hid (And.intro hr1 hr2)
          have hBw : w5.heap.size ≤ wr.heap.size := Nat.le_of_lt hbw.lt
          have HBw := Lib.hid hBw
          clear hnext hfew hif hbw hww hww' hr1 hr2 hr hrm hkn' hgk hlo hhi hgb hglt hgo hgw hown hg0 hBw
          go_wp2_with fail
          have hB3 : Below wr.heap.size wr (wr.alloc (.cells #[.int .u8 lo, .int .u8 hi] 93)) := (Below.refl _ _).alloc (Nat.le_refl _) _
          refine (writeRun_walk w5.heap.size w5.heap.size _ v' lo hi Hlt.out.1 Hlt.out.2 _ (Hbw.out.later hB3) (by have := Hfew.out; rw [List.length_append]; omega) (Nat.le_trans HBw.out hB3.size)).mono ?_
          rintro e w10 ⟨rfl, v10, h10, hw10⟩
          have H10 := Lib.hid (And.intro h10 ((Hww.out.trans (Wrote.later v' hB3 HBw.out)).trans hw10))
          clear h10 hw10 hB3
          go_wp2_with fail
          go_roundw
          case rel => exact ⟨k + 1, v10, by omega, by go_num, by rw [HX.out]; exact H10.out.1, H10.out.2⟩
          case measure => simp [intOf]; omega
        · have hd : decide ((k : Int) < n) = false := by simp; omega
          have hkl : (coreRuns s).take k = coreRuns s := List.take_of_length_le (by rw [← HN.out]; omega)
          rw [hkl] at hbw
          have hfew := (core_few s k).2
          rw [hkl] at hfew
          have hif := ifT_le s 93
          obtain ⟨pre, hpre⟩ : ∃ pre, pre = ifT s 93 ++ (coreRuns s).flatMap runT := ⟨_, rfl⟩
          rw [← hpre] at hbw
          have hpl : pre.length ≤ 800 := by rw [hpre, List.length_append]; omega
          have hltb := hbw.lt
          have hbelow : Below w5.heap.size w5 wr := Hb59.out.trans hww.below
          have Hs := Lib.hid (Hs5.out.below hbelow HltS.out)
          have HA := Lib.hid (Hn5.out.below hbelow HltA.out)
          have HB := Lib.hid hbelow
          have Hbw := Lib.hid hbw
          have Hpre := Lib.hid hpre
          have Hpl := Lib.hid hpl
          have Hltb := Lib.hid hltb
          clear hkl hbw hww hww' hfew hif hpre hpl hltb hbelow Hown Hbld9 Hb59 Hsz8 Hsz9
          go_wp2_with fail
          obtain ⟨w11, hw11⟩ : ∃ w11, w11 = wr.alloc (.cells #[.int .u8 91, .int .u8 94, .int .u8 45] 5) := ⟨_, rfl⟩
          have hlit : w11.heap[wr.heap.size]? = some (.cells #[.int .u8 91, .int .u8 94, .int .u8 45] 5 (0, 0)) := by rw [hw11]; exact World.alloc_heap_new wr _
          have hb11 : Below wr.heap.size wr w11 := by rw [hw11]; exact (Below.refl _ _).alloc (Nat.le_refl _) _
          rw [← hw11]
          clear hw11
          have hbld11 := Hbw.out.later hb11
          have hown11 : v'.ownBlock ≠ some wr.heap.size := Hbw.out.ownLt (Nat.le_refl _)
          have hne11 : wr.heap.size ≠ w5.heap.size := by have := Hltb.out; omega
          have hB11 := Lib.hid (HB.out.trans (hb11.mono (Nat.le_of_lt Hltb.out)))
          have Hlit := Lib.hid hlit
          have Hbld11 := Lib.hid hbld11
          have Hown11 := Lib.hid hown11
          have Hne11 := Lib.hid hne11
          have Hs11 := Lib.hid (Hs.out.below hb11 (Nat.lt_trans HltS.out Hltb.out))
          have HA11 := Lib.hid (HA.out.below hb11 (Nat.lt_trans HltA.out Hltb.out))
          clear hlit hbld11 hown11 hne11 hb11 Hs HA HB
          obtain ⟨rb, hrb⟩ : ∃ rb, rb = wr.heap.size := ⟨_, rfl⟩
          rw [← hrb] at Hlit Hown11 Hne11
          rw [← hrb]
          clear hrb Hbw Hltb hk hkn hd
          go_loopw [38] (fun i wz => ∃ (k : Nat) (v'' : Value), k ≤ 3 ∧ i = .int .i64 k ∧ Bld wz w5.heap.size w5.heap.size (pre ++ behindTo (s &&& apartOf s) k) v'' ∧ Wrote w5.heap.size w5.heap.size w11 v' wz v'') (fun i _ => 3 - (intOf i).toNat)
          case atStart => exact ⟨0, v', by omega, rfl, by simpa [behindTo] using Hbld11.out, Wrote.refl _ _ _ _⟩
          case round =>
            obtain ⟨k2, v'', hk2, rfl, hbz, hwz⟩ := hrel
            have hbelow : Below w5.heap.size w5 _ := hB11.out.trans hwz.below
            by_cases hk3 : k2 < 3
            · have hd : decide ((k2 : Int) < 3) = true := by simp; omega
              obtain ⟨z, hz⟩ : ∃ z, z = [91, 94, 45].getD k2 0 := ⟨_, rfl⟩
              have hz256 : z < 256 := by
                have : k2 = 0 ∨ k2 = 1 ∨ k2 = 2 := by omega
                rcases this with rfl | rfl | rfl <;> (rw [hz]; decide)
              have hcell : wr.cell? ⟨rb, k2, none⟩ = some (.int .u8 (z : Int)) := by
                have e := hwz.keep rb (lt_of_block Hlit.out) Hne11.out Hown11.out
                rw [World.cell?_of_block (a := ⟨rb, k2, none⟩) e, Lib.cell_of_heap Hlit.out, hz]
                have : k2 = 0 ∨ k2 = 1 ∨ k2 = 2 := by omega
                rcases this with rfl | rfl | rfl <;> rfl
              have Hs := Lib.hid (Hs5.out.below hbelow HltS.out)
              have HA := Lib.hid (Hn5.out.below hbelow HltA.out)
              have Hsucc := Lib.hid (behind_succ (s &&& apartOf s) k2 hk3)
              have Hz := Lib.hid (And.intro hz hz256)
              have hBz : w5.heap.size ≤ wr.heap.size := Nat.le_of_lt hbz.lt
              have HBz := Lib.hid hBz
              have Hbz := Lib.hid hbz
              have Hwz := Lib.hid hwz
              clear hbz hwz hbelow hz hz256 hBz
              go_wp2_with (first | (refine wpList_load_set rfl _ rfl w.heap.size 0 s rfl Hs.out ?_) | (refine wpList_load_set rfl _ rfl w2.heap.size 0 (apartOf s) rfl HA.out ?_))
              refine (and_any _ _ _).mono ?_
              rintro e w13 ⟨rfl, hb13⟩
              have H13 := Lib.hid (And.intro (Hbz.out.later hb13) (And.intro (Hwz.out.trans (Wrote.later v'' hb13 HBz.out)) (Nat.le_trans HBz.out hb13.size)))
              clear hb13 hcell
              go_wp2_with fail
              refine (writeIf_walk w5.heap.size w5.heap.size _ v'' (s &&& apartOf s) z Hz.out.2 _ H13.out.1 (by have := Hpl.out; have := behind_le (s &&& apartOf s) k2; rw [List.length_append]; omega) H13.out.2.2).mono ?_
              rintro e w14 ⟨rfl, v14, h14, hw14⟩
              have H14 := Lib.hid (And.intro h14 (H13.out.2.1.trans hw14))
              clear h14 hw14
              go_wp2_with fail
              go_roundw
              case rel => exact ⟨k2 + 1, v14, by omega, by go_num, by rw [Hsucc.out, ← Hz.out.1, ← List.append_assoc]; exact H14.out.1, H14.out.2⟩
              case measure => simp [intOf]; omega
            · have hd : decide ((k2 : Int) < 3) = false := by simp; omega
              obtain rfl : k2 = 3 := by omega
              have hall : pre ++ behindTo (s &&& apartOf s) 3 = itemsT s := by rw [behind_all, hTT.out.1, Hpre.out, List.append_assoc]
              rw [hall] at hbz
              have hBz : w5.heap.size ≤ wr.heap.size := Nat.le_of_lt hbz.lt
              have HBz := Lib.hid hBz
              have Hbz := Lib.hid hbz
              have Hbel := Lib.hid (Hb5.out.trans (hbelow.mono (Nat.le_of_lt HltS.out)))
              clear hbz hwz hbelow hall hBz
              go_wp2_with fail
              refine (bld_string w5.heap.size w5.heap.size _ v'' _ Hbz.out hTT.out.2 HBz.out).mono ?_
              rintro e w15 ⟨rfl, hb15⟩
              have Hb15 := Lib.hid hb15
              clear hb15
              go_wp2_with fail
              go_ret
              exact ⟨⟨_, rfl, nats_bytes hTT.out.2⟩, Hbel.out.trans (Hb15.out.mono (Nat.le_of_lt HltS.out))⟩
end Go.Proofs.YtjkhmmdjgancmaaDoor
/-! print.Set, walked whole. -/
namespace Go.Proofs.YtjkhmmdjgancmaaDoor
set_option maxRecDepth 100000
open Go.RowKit
def specialV (c : Nat) : Int := Lib.indexByte [46, 91, 93, 92, 40, 41, 42, 43, 63, 123, 125, 124, 94, 36] (Int.toNat (c : Int)).toUInt8
theorem specialV_mem : ∀ c, c < 256 → (decide (specialV c ≥ 0) = decide (c ∈ special)) := by decide +kernel
theorem special_lit (c : Nat) (w : World) :
    Calls Tryd.prog 40 #[.string ⟨#[46, 91, 93, 92, 40, 41, 42, 43, 63, 123, 125, 124, 94, 36]⟩, .int .u8 c] w fun e w' => e = .returned (.int .i64 (specialV c)) ∧ w' = w :=
  Tryd.strings_IndexByte ⟨#[46, 91, 93, 92, 40, 41, 42, 43, 63, 123, 125, 124, 94, 36]⟩ c w
theorem single_lt (c : Nat) (h : c < 256) : ∀ x ∈ singleT c, x < 256 := by
  intro x hx
  unfold singleT at hx
  split at hx
  · simp at hx; omega
  · simp at hx; omega
set_option maxHeartbeats 1000000 in
theorem single_walk (c : Nat) (hc : c < 256) (w : World) : Calls Tryd.prog 21 #[.int .u8 c] w (TextIs w (singleT c)) := by
  have hm := specialV_mem c hc
  have hi := special_lit c
  have hlt := Lib.hid (single_lt c hc)
  generalize specialV c = p at *
  by_cases hs : c ∈ special
  · rw [decide_eq_true hs] at hm
    have e : singleT c = [92, c] := by unfold singleT; rw [if_pos hs]
    have HE := Lib.hid e
    have hc2 : (convert 59 9 (.slice (some ⟨w.heap.size, 0, none⟩) 2 2)).run Tryd.prog (w.alloc (.cells #[.int .u8 92, .int .u8 c] 5)) = _ := string_at (bytes_lit w [92, c] #[.int .u8 92, .int .u8 c] rfl (by intro x hx; simp at hx; omega) (by simp [maxLen]))
    clear e hs
    go_enter Tryd.func21, Tryd.ntmps21
    go_wp2_with (go_at_call 40; refine (hi _).mono ?_; rintro e w1 ⟨rfl, rfl⟩)
    go_ret
    refine ⟨⟨_, rfl, ?_⟩, (Below.refl _ _).alloc (Nat.le_refl _) _⟩
    rw [nats_bytes (by rw [← HE.out]; exact hlt.out), HE.out]
  · rw [decide_eq_false hs] at hm
    have e : singleT c = [c] := by unfold singleT; rw [if_neg hs]
    have HE := Lib.hid e
    have hc2 : (convert 59 9 (.slice (some ⟨w.heap.size, 0, none⟩) 1 1)).run Tryd.prog (w.alloc (.cells #[.int .u8 c] 5)) = _ := string_at (bytes_lit w [c] #[.int .u8 c] rfl (by intro x hx; simp at hx; omega) (by simp [maxLen]))
    clear e hs
    go_enter Tryd.func21, Tryd.ntmps21
    go_wp2_with (go_at_call 40; refine (hi _).mono ?_; rintro e w1 ⟨rfl, rfl⟩)
    go_ret
    refine ⟨⟨_, rfl, ?_⟩, (Below.refl _ _).alloc (Nat.le_refl _) _⟩
    rw [nats_bytes (by rw [← HE.out]; exact hlt.out), HE.out]
theorem list_row (s : BitVec 256) (w : World) (hT : TabAt 0 Lib.deBruijn64tab w) : Calls Tryd.prog 22 #[SV s] w (ListAt w (elems s)) := by
  refine (list_any s w hT).mono ?_
  rintro e w' ⟨v, rfl, hown, hb⟩
  obtain ⟨a, c, rfl⟩ := owns_form hown
  exact ⟨a, c, rfl, hb, fun w2 h2 => bytesAt_of_owns hown (fun x hx => ((mem_elems s x).1 hx).1) h2⟩
theorem items_walk (s : BitVec 256) (w : World) (hT : TabAt 0 Lib.deBruijn64tab w) : Calls Tryd.prog 24 #[SV s] w (TextIs w (itemsT s)) := by
  by_cases h : s = cDC
  · subst h
    have e : itemsT cDC = [45, 94] := by unfold itemsT; rw [if_pos (show cDC = setOf [45, 94] from rfl)]
    rw [e]; exact items_dc w
  · exact items_any s h w hT
theorem items_len (s : BitVec 256) : (itemsT s).length ≤ 800 := by
  unfold itemsT
  split
  · decide
  · have h1 := (core_few s (coreRuns s).length).2
    rw [List.take_length] at h1
    have h2 := ifT_le s 93
    have h3 : (behindT s).length ≤ 3 := by rw [← behind_all]; exact behind_le _ _
    rw [List.length_append, List.length_append]
    omega
theorem size_nats {t : ByteArray} {l : List Nat} (h : nats t = l) : t.size = l.length := by rw [← h, nats_length]
theorem whole_len (s : BitVec 256) : (wholeOf s).1.length ≤ 10 := by
  unfold wholeOf
  split
  · rename_i l hl
    have hm := List.mem_of_find?_eq_some hl
    have : ∀ l ∈ nameBytes, l.length ≤ 10 := by decide
    exact this l hm
  · decide
theorem nats_str (l : List UInt8) : nats ⟨l.toArray⟩ = l.map UInt8.toNat := rfl
set_option maxHeartbeats 4000000 in
theorem set_walk (s : BitVec 256) (w : World) (hT : TabAt 0 Lib.deBruijn64tab w) : Calls Tryd.prog 7 #[SV s] w (TextIs w (setT s)) := by
  obtain ⟨n, hn⟩ : ∃ n, n = (elems s).length := ⟨_, rfl⟩
  have hlen := len_any s
  rw [← hn] at hlen
  have hT1 := Lib.hid hT
  have HN := Lib.hid hn
  have hn256 : n ≤ 256 := by rw [hn]; exact elems_length_le s
  clear hT hn
  by_cases h0 : n = 0
  · have e0 : ((n : Int) == 0) = true := by simp [h0]
    have HE := Lib.hid (show setT s = [] from by unfold setT; rw [if_pos (by rw [← HN.out]; exact h0)])
    clear h0
    go_enter Tryd.func7, Tryd.ntmps7
    go_wp2_with fail
    refine (hlen _).mono ?_
    rintro e w1 ⟨rfl, hb1⟩
    have Hb := Lib.hid (((Below.refl w.heap.size w).alloc (Nat.le_refl _) _).trans (hb1.mono (by simp)))
    clear hb1
    go_wp2_with fail
    go_ret
    exact ⟨⟨_, rfl, by rw [HE.out]; rfl⟩, Hb.out⟩
  have e0 : ((n : Int) == 0) = false := by simp; omega
  obtain ⟨A, hA⟩ : ∃ A, A = BitVec.allOnes 256 := ⟨_, rfl⟩
  have hall := all_any
  rw [← hA] at hall
  have heq := fun w => eql_set s A w
  have HA := Lib.hid hA
  have H0 := Lib.hid h0
  clear hA h0
  obtain ⟨q, hq⟩ : ∃ q, q = decide (s = A) := ⟨_, rfl⟩
  rw [← hq] at heq
  have HQ := Lib.hid hq
  clear hq
  go_enter Tryd.func7, Tryd.ntmps7
  go_wp2_with fail
  refine (hlen _).mono ?_
  rintro e w1 ⟨rfl, hb1⟩
  have hset1 := setAt_below (setAt_made w s) hb1 (by simp)
  have Hb := Lib.hid (((Below.refl w.heap.size w).alloc (Nat.le_refl _) _).trans (hb1.mono (by simp)))
  have hlt1 := setAt_lt hset1
  have H1 := Lib.hid hset1
  clear hb1 hset1 hlen
  go_upto_region 4 with fail
  go_cut [11] from 12 to 14 (fun v wx => v = .bool q ∧ Set4 wx w.heap.size 0 s ∧ Below w.heap.size w wx)
  case first =>
    have m0 := H1.out.cell 0 (by decide)
    have m1 := H1.out.cell 1 (by decide)
    have m2 := H1.out.cell 2 (by decide)
    have m3 := H1.out.cell 3 (by decide)
    go_wp2_with fail
    go_region_with (first
      | (go_at_call 20; refine (hall _).mono ?_; rintro e w2 ⟨rfl, hb2⟩
         have hb2' := Lib.hid (show Below w1.heap.size w1 w2 from Below.trans (by repeat (first | exact Below.refl _ _ | refine Below.drew ?_)) hb2)
         have r0 : ∀ o, w2.cell? ⟨w.heap.size, o, none⟩ = w1.cell? ⟨w.heap.size, o, none⟩ := fun o => hb2'.out.cell (p := ⟨w.heap.size, o, none⟩) hlt1
         clear hb2))
    all_goals
      go_wp2_with fail
      go_meet
      exact ⟨rfl, H1.out.four.below hb2'.out hlt1, Hb.out.trans (hb2'.out.mono (Nat.le_of_lt hlt1))⟩
  case rest =>
    obtain ⟨rfl, hs2, hb2⟩ := hcut
    have hlt2 := hs2.lt
    have Hs2 := Lib.hid hs2
    have Hb2 := Lib.hid hb2
    have HT2 := Lib.hid (tab_below hT1.out hb2 (tab_pos hT1.out))
    have Hlt2 := Lib.hid hlt2
    clear hs2 hb2 H1 Hb hlt1 hlt2 hall heq
    cases q
    · have hne : ¬ s = BitVec.allOnes 256 := by rw [← HA.out]; intro h; have := HQ.out; rw [decide_eq_true h] at this; cases this
      have Hne := Lib.hid hne
      clear hne
      by_cases h1 : n = 1
      · have e1 : ((n : Int) == 1) = true := by simp [h1]
        obtain ⟨c, hc⟩ := List.length_eq_one_iff.1 (HN.out.symm.trans h1)
        have hc256 : c < 256 := by have : c ∈ elems s := by rw [hc]; simp
                                   exact ((mem_elems s c).1 this).1
        have HE := Lib.hid (show setT s = singleT c from by
          unfold setT
          rw [if_neg (by rw [← HN.out]; exact H0.out), if_neg Hne.out, if_pos (by rw [← HN.out]; exact h1), hc]; rfl)
        have hlist := list_row s
        rw [hc] at hlist
        have Hlist := Lib.hid hlist
        have Hc := Lib.hid hc256
        clear h1 hc hc256 hlist
        go_wp2_with (first | (refine wpList_load_set rfl _ rfl w.heap.size 0 s rfl Hs2.out ?_))
        refine (Hlist.out _ HT2.out).mono ?_
        rintro e w3 ⟨a, cap, rfl, hb3, hl3⟩
        obtain ⟨_, _, _, h4⟩ := hl3 w3 (Below.refl _ _)
        rcases h4 with h4 | ⟨b, off, rfl, hcap, _, hcell⟩
        · cases h4
        have hc0 : w3.cell? ⟨b, off, none⟩ = some (.int .u8 c) := hcell 0 (by simp)
        have Hb3 := Lib.hid (Hb2.out.trans (hb3.mono (Nat.le_of_lt Hlt2.out)))
        clear hcell hl3 hb3
        simp only [List.length_cons, List.length_nil]
        go_wp2_with fail
        refine (single_walk c Hc.out _).mono ?_
        rintro e w4 ⟨⟨t, rfl, ht⟩, hb4⟩
        have Hb4 := Lib.hid (And.intro ht hb4)
        clear ht hb4
        go_wp2_with fail
        go_ret
        exact ⟨⟨_, rfl, by rw [HE.out, Hb4.out.1]⟩, Hb3.out.trans (Hb4.out.2.mono Hb3.out.size)⟩
      · have e1 : ((n : Int) == 1) = false := by simp; omega
        have Hn1 := Lib.hid h1
        clear h1
        have hwl := whole_len s
        have hwh := whole_any s
        obtain ⟨nm, hnm⟩ : ∃ nm, nm = (wholeOf s).1 := ⟨_, rfl⟩
        obtain ⟨ok, hok⟩ : ∃ ok, ok = (wholeOf s).2 := ⟨_, rfl⟩
        rw [← hnm, ← hok] at hwh
        rw [← hnm] at hwl
        have Hwh := Lib.hid hwh
        have Hnm := Lib.hid hnm
        have Hok := Lib.hid hok
        clear hwh hnm hok
        go_wp2_with (first | (refine wpList_load_set rfl _ rfl w.heap.size 0 s rfl Hs2.out ?_))
        refine (Hwh.out _).mono ?_
        unfold strv
        rintro e w3 ⟨rfl, hb3⟩
        have Hb3 := Lib.hid (Hb2.out.trans (hb3.mono (Nat.le_of_lt Hlt2.out)))
        have Hs3 := Lib.hid (Hs2.out.below hb3 Hlt2.out)
        have HT3 := Lib.hid (tab_below HT2.out hb3 (tab_pos HT2.out))
        have Hlt3 := Lib.hid (Nat.lt_of_lt_of_le Hlt2.out hb3.size)
        clear hb3
        obtain ⟨t, ht⟩ : ∃ t : ByteArray, t = ⟨nm.toArray⟩ := ⟨_, rfl⟩
        have htn : nats t = nm.map UInt8.toNat := by rw [ht]; rfl
        have hts : t.size ≤ 10 := by rw [size_nats htn, List.length_map]; exact hwl
        rw [← ht]
        have Htn := Lib.hid htn
        clear ht htn hwl
        cases ok
        · have hnw : ¬ (wholeOf s).2 = true := by rw [← Hok.out]; simp
          have Hnw := Lib.hid hnw
          clear hnw
          by_cases h128 : 128 < n
          · have d1 : decide ((n : Int) > 128) = true := by simp; omega
            have HE := Lib.hid (show setT s = 91 :: 94 :: (itemsT (~~~s) ++ [93]) from by
              unfold setT
              rw [if_neg (by rw [← HN.out]; exact H0.out), if_neg Hne.out, if_neg (by rw [← HN.out]; exact Hn1.out), if_neg Hnw.out, if_pos (by rw [← HN.out]; exact h128)])
            clear h128
            go_wp2_with (first | (refine wpList_load_set rfl _ rfl w.heap.size 0 s rfl Hs3.out ?_))
            refine (not_any _ _).mono ?_
            rintro e w4 ⟨rfl, hb4⟩
            have HT4 := Lib.hid (tab_below HT3.out hb4 (tab_pos HT3.out))
            have Hb4 := Lib.hid (Hb3.out.trans (hb4.mono (Nat.le_of_lt Hlt3.out)))
            clear hb4
            go_wp2_with fail
            refine (items_walk _ _ HT4.out).mono ?_
            rintro e w5 ⟨⟨u, rfl, hu⟩, hb5⟩
            have hus : u.size ≤ 800 := by rw [size_nats hu]; exact items_len _
            have f1 : ¬ (9223372036854775807 : Int) < 2 + u.size := by omega
            have f2 : ¬ (9223372036854775807 : Int) < 2 + u.size + 1 := by omega
            have Hb5 := Lib.hid (And.intro hu (Hb4.out.trans (hb5.mono Hb4.out.size)))
            clear hu hb5
            go_wp2_with fail
            go_ret
            exact ⟨⟨_, rfl, by rw [nats_add, nats_add, Hb5.out.1, HE.out]; rfl⟩, Hb5.out.2⟩
          · have d1 : decide ((n : Int) > 128) = false := by simp; omega
            have HE := Lib.hid (show setT s = 91 :: (itemsT s ++ [93]) from by
              unfold setT
              rw [if_neg (by rw [← HN.out]; exact H0.out), if_neg Hne.out, if_neg (by rw [← HN.out]; exact Hn1.out), if_neg Hnw.out, if_neg (by rw [← HN.out]; exact h128)])
            clear h128
            go_wp2_with (first | (refine wpList_load_set rfl _ rfl w.heap.size 0 s rfl Hs3.out ?_))
            refine (items_walk _ _ HT3.out).mono ?_
            rintro e w5 ⟨⟨u, rfl, hu⟩, hb5⟩
            have hus : u.size ≤ 800 := by rw [size_nats hu]; exact items_len _
            have f1 : ¬ (9223372036854775807 : Int) < 1 + u.size := by omega
            have f2 : ¬ (9223372036854775807 : Int) < 1 + u.size + 1 := by omega
            have Hb5 := Lib.hid (And.intro hu (Hb3.out.trans (hb5.mono Hb3.out.size)))
            clear hu hb5
            go_wp2_with fail
            go_ret
            exact ⟨⟨_, rfl, by rw [nats_add, nats_add, Hb5.out.1, HE.out]; rfl⟩, Hb5.out.2⟩
        · have HE := Lib.hid (show setT s = namedT nm from by
            unfold setT
            rw [if_neg (by rw [← HN.out]; exact H0.out), if_neg Hne.out, if_neg (by rw [← HN.out]; exact Hn1.out), if_pos Hok.out.symm, Hnm.out])
          have f1 : ¬ (9223372036854775807 : Int) < 3 + t.size := by omega
          have f2 : ¬ (9223372036854775807 : Int) < 3 + t.size + 3 := by omega
          go_wp2_with fail
          go_ret
          exact ⟨⟨_, rfl, by rw [nats_add, nats_add, Htn.out, HE.out]; rfl⟩, Hb3.out⟩
    · have HE := Lib.hid (show setT s = [46] from by
        unfold setT
        rw [if_neg (by rw [← HN.out]; exact H0.out), if_pos (by rw [← HA.out]; simpa using HQ.out.symm)])
      go_wp2_with fail
      go_ret
      exact ⟨⟨_, rfl, by rw [HE.out]; rfl⟩, Hb2.out⟩
end Go.Proofs.YtjkhmmdjgancmaaDoor
/-! print.bounds, walked. -/
namespace Go.Proofs.YtjkhmmdjgancmaaDoor
set_option maxRecDepth 100000
open Go.RowKit
/-- the table of powers reads as it is laid -/
abbrev PowAt (w : World) : Prop := Lib.TabIs Tryd.prog w "internal/strconv.uint64pow10" .u64 Lib.pow10Tab
theorem pow_below {w w' : World} (h : PowAt w) (hb : Below w.heap.size w w') : PowAt w' := Lib.tabBelow_of_tabIs h w' hb
theorem dec_num (n : Nat) : (Lib.decDigits n).map UInt8.toNat = numText n := by
  induction n using Nat.strongRecOn with
  | _ n ih =>
    rw [Lib.decDigits, numText]
    by_cases h : n < 10
    · rw [dif_pos h, if_pos h]
      simp only [List.map_cons, List.map_nil]
      rw [UInt8.toNat_ofNat_of_lt' (by show 48 + n < 256; omega)]
    · rw [dif_neg h, if_neg h, List.map_append, ih (n / 10) (by omega)]
      simp only [List.map_cons, List.map_nil]
      rw [UInt8.toNat_ofNat_of_lt' (by show 48 + n % 10 < 256; omega)]
theorem numText_len (n : Nat) (h : n ≤ 255) : (numText n).length ≤ 3 := by
  have : ∀ n, n < 256 → (numText n).length ≤ 3 := by
    intro n hn
    rw [numText]
    split
    · simp
    · rw [numText]
      split
      · simp
      · rw [numText, if_pos (by omega)]
        simp
  exact this n (by omega)
theorem itoa_text (a : Int) (n : Nat) (ha : a = (n : Int)) (hn : n ≤ 255) (w : World) (hP : PowAt w) : Calls Tryd.prog 104 #[.int .i64 a] w (TextIs w (numText n)) := by
  subst ha
  by_cases h : n < 100
  · refine (Tryd.strconv_Itoa_small n h w).mono ?_
    rintro e w' ⟨rfl, rfl⟩
    exact ⟨⟨_, rfl, dec_num n⟩, Below.refl _ _⟩
  · refine (Tryd.strconv_Itoa n (by omega) (by omega) w hP).mono ?_
    rintro e w' ⟨rfl, k, os, rfl⟩
    refine ⟨⟨_, rfl, ?_⟩, ?_⟩
    · have : Lib.itoa (n : Int) = Lib.decDigits n := by unfold Lib.itoa; rw [if_neg (by omega)]; rfl
      rw [this]; exact dec_num n
    · refine ⟨rfl, rfl, rfl, ?_, ?_⟩
      · show w.heap.size ≤ (w.heap ++ os).size
        rw [Array.size_append]; omega
      · intro j hj
        show (w.heap ++ os)[j]? = w.heap[j]?
        rw [Array.getElem?_append_left hj]
set_option maxHeartbeats 4000000 in
theorem bounds_from (lo : Int) (m : Nat) (hm : lo = (m : Int)) (h2 : 2 ≤ m) (h255 : m ≤ 255) (w : World) (hP : PowAt w) : Calls Tryd.prog 71 #[.int .i64 lo, .int .i64 (-1)] w (TextIs w (123 :: (numText m ++ [44, 125]))) := by
  have e0 : (lo == 0) = false := by rw [beq_eq_false_iff_ne]; omega
  have e1 : (lo == 1) = false := by rw [beq_eq_false_iff_ne]; omega
  have hi := Lib.hid (fun w hP => itoa_text lo m hm h255 w hP)
  have HL := Lib.hid (numText_len m h255)
  have HP := Lib.hid hP
  clear hm h2 h255 hP
  go_enter Tryd.func71, Tryd.ntmps71
  go_wp2_with fail
  refine (hi.out _ HP.out).mono ?_
  rintro e w1 ⟨⟨t, rfl, ht⟩, hb⟩
  have hs : t.size ≤ 3 := by rw [size_nats ht]; exact HL.out
  have f1 : ¬ (9223372036854775807 : Int) < 1 + t.size := by omega
  have f2 : ¬ (9223372036854775807 : Int) < 1 + t.size + 2 := by omega
  have H := Lib.hid (And.intro ht hb)
  clear ht hb
  go_wp2_with fail
  go_ret
  exact ⟨⟨_, rfl, by rw [nats_add, nats_add, H.out.1]; rfl⟩, H.out.2⟩
set_option maxHeartbeats 4000000 in
theorem bounds_just (lo : Int) (m : Nat) (hm : lo = (m : Int)) (h255 : m ≤ 255) (w : World) (hP : PowAt w) : Calls Tryd.prog 71 #[.int .i64 lo, .int .i64 lo] w (TextIs w (123 :: (numText m ++ [125]))) := by
  have en : (lo == -1) = false := by rw [beq_eq_false_iff_ne]; omega
  have hi := Lib.hid (fun w hP => itoa_text lo m hm h255 w hP)
  have HL := Lib.hid (numText_len m h255)
  have HP := Lib.hid hP
  have hcase : (lo == 0) = true ∧ (lo == 1) = false ∨ (lo == 0) = false ∧ (lo == 1) = true ∨ (lo == 0) = false ∧ (lo == 1) = false := by
    simp only [beq_iff_eq, beq_eq_false_iff_ne]; omega
  clear hm h255 hP
  rcases hcase with ⟨e0, e1⟩ | ⟨e0, e1⟩ | ⟨e0, e1⟩
  all_goals
    go_enter Tryd.func71, Tryd.ntmps71
    go_wp2_with fail
    refine (hi.out _ HP.out).mono ?_
    rintro e w1 ⟨⟨t, rfl, ht⟩, hb⟩
    have hs : t.size ≤ 3 := by rw [size_nats ht]; exact HL.out
    have f1 : ¬ (9223372036854775807 : Int) < 1 + t.size := by omega
    have f2 : ¬ (9223372036854775807 : Int) < 1 + t.size + 1 := by omega
    have H := Lib.hid (And.intro ht hb)
    clear ht hb
    go_wp2_with fail
    go_ret
    exact ⟨⟨_, rfl, by rw [nats_add, nats_add, H.out.1]; rfl⟩, H.out.2⟩
set_option maxHeartbeats 4000000 in
theorem bounds_both (lo hi : Int) (m n : Nat) (hm : lo = (m : Int)) (hn : hi = (n : Int)) (hlt : m < n) (hne : ¬ (m = 0 ∧ n = 1)) (h255 : n ≤ 255) (w : World) (hP : PowAt w) :
    Calls Tryd.prog 71 #[.int .i64 lo, .int .i64 hi] w (TextIs w (123 :: (numText m ++ 44 :: (numText n ++ [125])))) := by
  have en : (hi == -1) = false := by rw [beq_eq_false_iff_ne]; omega
  have ee : (lo == hi) = false := by rw [beq_eq_false_iff_ne]; omega
  have h1 := Lib.hid (fun w hP => itoa_text lo m hm (by omega) w hP)
  have h2 := Lib.hid (fun w hP => itoa_text hi n hn h255 w hP)
  have HL := Lib.hid (And.intro (numText_len m (by omega)) (numText_len n h255))
  have HP := Lib.hid hP
  have hcase : (lo == 0) = true ∧ (lo == 1) = false ∧ (hi == 1) = false ∨ (lo == 0) = false ∧ (lo == 1) = true ∨ (lo == 0) = false ∧ (lo == 1) = false := by
    simp only [beq_iff_eq, beq_eq_false_iff_ne]; omega
  clear hm hn hlt hne h255 hP
  rcases hcase with ⟨e0, e1, e2⟩ | ⟨e0, e1⟩ | ⟨e0, e1⟩
  all_goals
    go_enter Tryd.func71, Tryd.ntmps71
    go_wp2_with fail
    refine (h1.out _ HP.out).mono ?_
    rintro e w1 ⟨⟨t, rfl, ht⟩, hb⟩
    have hs : t.size ≤ 3 := by rw [size_nats ht]; exact HL.out.1
    have f1 : ¬ (9223372036854775807 : Int) < 1 + t.size := by omega
    have f2 : ¬ (9223372036854775807 : Int) < 1 + t.size + 1 := by omega
    have H := Lib.hid (And.intro ht hb)
    clear ht hb
    go_wp2_with fail
    refine (h2.out _ (pow_below HP.out H.out.2)).mono ?_
    rintro e w2 ⟨⟨u, rfl, hu⟩, hb2⟩
    have hs2 : u.size ≤ 3 := by rw [size_nats hu]; exact HL.out.2
    have f3 : ¬ (9223372036854775807 : Int) < 1 + t.size + 1 + u.size := by omega
    have f4 : ¬ (9223372036854775807 : Int) < 1 + t.size + 1 + u.size + 1 := by omega
    have H2 := Lib.hid (And.intro hu (H.out.2.trans (hb2.mono H.out.2.size)))
    clear hu hb2
    go_wp2_with fail
    go_ret
    exact ⟨⟨_, rfl, by rw [nats_add, nats_add, nats_add, nats_add, H.out.1, H2.out.1]; simp [nats]⟩, H2.out.2⟩
set_option maxHeartbeats 4000000 in
theorem bounds_walk (lo hi : Int) (h : BoundsOk lo hi) (w : World) (hP : PowAt w) : Calls Tryd.prog 71 #[.int .i64 lo, .int .i64 hi] w (TextIs w (boundsT lo hi)) := by
  obtain ⟨h0, h1, h2⟩ := h
  obtain ⟨m, rfl⟩ := Int.eq_ofNat_of_zero_le h0
  unfold boundsT
  by_cases c1 : (m : Int) = 0 ∧ hi = -1
  · rw [if_pos c1, c1.1, c1.2]
    clear c1 h0 h1 h2 hP
    go_enter Tryd.func71, Tryd.ntmps71
    go_wp2_with fail
    go_ret
    exact ⟨⟨_, rfl, rfl⟩, Below.refl _ _⟩
  rw [if_neg c1]
  by_cases c2 : (m : Int) = 1 ∧ hi = -1
  · rw [if_pos c2, c2.1, c2.2]
    clear c1 c2 h0 h1 h2 hP
    go_enter Tryd.func71, Tryd.ntmps71
    go_wp2_with fail
    go_ret
    exact ⟨⟨_, rfl, rfl⟩, Below.refl _ _⟩
  rw [if_neg c2]
  by_cases c3 : (m : Int) = 0 ∧ hi = 1
  · rw [if_pos c3, c3.1, c3.2]
    clear c1 c2 c3 h0 h1 h2 hP
    go_enter Tryd.func71, Tryd.ntmps71
    go_wp2_with fail
    go_ret
    exact ⟨⟨_, rfl, rfl⟩, Below.refl _ _⟩
  rw [if_neg c3]
  by_cases c4 : hi = -1
  · rw [if_pos c4, c4]
    exact bounds_from _ m rfl (by omega) (by omega) w hP
  rw [if_neg c4]
  have h3 := h2.resolve_left c4
  obtain ⟨n, rfl⟩ := Int.eq_ofNat_of_zero_le (show 0 ≤ hi by omega)
  by_cases c5 : (m : Int) = n
  · rw [if_pos c5, ← c5]
    exact bounds_just _ m rfl (by omega) w hP
  rw [if_neg c5]
  exact bounds_both _ _ m n rfl rfl (by omega) (by omega) (by omega) w hP
end Go.Proofs.YtjkhmmdjgancmaaDoor
/-! print.write, writeAll, writeEnclosed, Node, walked for every node of a valid pattern. -/
namespace Go.Proofs.YtjkhmmdjgancmaaDoor
set_option maxRecDepth 100000
open Go.RowKit
/-! the text of a list, node by node -/
theorem more_snoc (sep : List Nat) (y : Nd) : ∀ l : List Nd, txtsMore sep (l ++ [y]) = txtsMore sep l ++ (sep ++ y.txt)
  | [] => by rw [List.nil_append, more_cons, more_nil, List.append_nil]; rfl
  | x :: l => by rw [List.cons_append, more_cons, more_cons, more_snoc sep y l]; simp only [List.append_assoc]
theorem txts_snoc (sep : List Nat) (y : Nd) (l : List Nd) : txts sep (l ++ [y]) = txts sep l ++ ((if l = [] then [] else sep) ++ y.txt) := by
  cases l with
  | nil => rw [List.nil_append, txts_cons, more_nil, txts_nil, if_pos rfl, List.append_nil]; rfl
  | cons x l => rw [List.cons_append, txts_cons, txts_cons, more_snoc, if_neg (by simp), List.append_assoc]
theorem more_length (sep : List Nat) (m : List Nd) : ∀ l : List Nd, (txtsMore sep l).length ≤ (txtsMore sep (l ++ m)).length
  | [] => by rw [more_nil]; simp
  | x :: l => by rw [List.cons_append, more_cons, more_cons]; have := more_length sep m l; simp only [List.length_append]; omega
theorem txts_length (sep : List Nat) (m l : List Nd) : (txts sep l).length ≤ (txts sep (l ++ m)).length := by
  cases l with
  | nil => rw [txts_nil]; simp
  | cons x l => rw [List.cons_append, txts_cons, txts_cons]; have := more_length sep m l; simp only [List.length_append]; omega
theorem txts_take (sep : List Nat) (l : List Nd) (k : Nat) : (txts sep (l.take k)).length ≤ (txts sep l).length := by
  have := txts_length sep (l.drop k) (l.take k)
  rwa [List.take_append_drop] at this
/-- what a writer of nodes promises -/
def Writes (b : Nat) (w : World) (v : Value) (l : List Nat) (e : Ending) (w' : World) : Prop := e = .returned (.tuple #[]) ∧ ∃ v', Bld w' b b l v' ∧ Wrote b b w v w' v'
def most : Nat := 140737488355000
/-- the world in which the builder was made -/
structure Base (W0 : World) : Prop where
  tab : TabAt 0 Lib.deBruijn64tab W0
  pow : PowAt W0
theorem Base.later {W0 w : World} (h : Base W0) (hb : Below W0.heap.size W0 w) : TabAt 0 Lib.deBruijn64tab w ∧ PowAt w := ⟨tab_below h.tab hb (tab_pos h.tab), pow_below h.pow hb⟩
def WriteOk (W0 : World) (x : Nd) : Prop := ∀ (cs : List Value) (next m : Nat) (l : List Nat) (v : Value) (w : World), Nd.at W0 x cs → x.form next = some m → Below W0.heap.size W0 w → Bld w W0.heap.size W0.heap.size l v → l.length + x.txt.length ≤ most →
  Calls Tryd.prog 37 #[.pointer (some ⟨W0.heap.size, 0, none⟩), .agg cs.toArray] w (Writes W0.heap.size w v (l ++ x.txt))
set_option maxHeartbeats 4000000 in
theorem writeAll_walk {W0 : World} (k : Int) (L : List Nd) (hL : ∀ y ∈ L, WriteOk W0 y) (next m : Nat) (hf : forms k L next = some m) (a : Option Addr) (cap : Nat) (hmax : L.length ≤ maxLen)
    (hmem : L = [] ∨ ∃ b off, a = some ⟨b, off, none⟩ ∧ L.length ≤ cap ∧ b < W0.heap.size ∧ nodesAt W0 L b off) (sep : ByteArray) (l : List Nat) (v : Value) (w : World) (hb : Below W0.heap.size W0 w) (hbld : Bld w W0.heap.size W0.heap.size l v)
    (hlen : l.length + (txts (nats sep) L).length ≤ most) :
    Calls Tryd.prog 70 #[.pointer (some ⟨W0.heap.size, 0, none⟩), .slice a L.length cap, .string sep] w (Writes W0.heap.size w v (l ++ txts (nats sep) L)) := by
  have hforms : ∀ y ∈ L, ∃ n1 m1, y.form n1 = some m1 := by
    clear hL hmem hmax hlen
    induction L generalizing next with
    | nil => intro y hy; simp at hy
    | cons x L ih =>
      obtain ⟨_, m1, h1, h2⟩ := forms_step hf
      intro y hy
      rcases List.mem_cons.1 hy with rfl | hy
      · exact ⟨_, _, h1⟩
      · exact ih _ h2 y hy
  obtain ⟨n, hn⟩ : ∃ n, n = L.length := ⟨_, rfl⟩
  rw [← hn]
  have HN := Lib.hid hn
  have HLen := Lib.hid hlen
  have Hb := Lib.hid hb
  have Hbld := Lib.hid hbld
  have Hmem := Lib.hid hmem
  have Hforms := Lib.hid hforms
  have HL := Lib.hid hL
  have hnm : n ≤ maxLen := by rw [hn]; exact hmax
  clear hn hlen hb hbld hmem hforms hL hmax hf
  unfold maxLen at hnm
  go_enter Tryd.func70, Tryd.ntmps70
  go_wp2_with fail
  go_loopw [10] (fun i wr => ∃ (k : Nat) (v' : Value), k ≤ n ∧ i = .int .i64 k ∧ Bld wr W0.heap.size W0.heap.size (l ++ txts (nats sep) (L.take k)) v' ∧ Wrote W0.heap.size W0.heap.size w v wr v') (fun i _ => n - (intOf i).toNat)
  case atStart => exact ⟨0, v, by omega, rfl, by rw [List.take_zero, txts_nil, List.append_nil]; exact Hbld.out, Wrote.refl _ _ _ _⟩
  case round =>
    obtain ⟨k, v', hk, rfl, hbw, hww⟩ := hrel
    by_cases hkn : k < n
    · have hd : decide ((k : Int) < n) = true := by simp; omega
      have hkL : k < L.length := by rw [← HN.out]; exact hkn
      obtain ⟨bn, off, rfl, hcap, hbn, hnodes⟩ : ∃ b off, a = some ⟨b, off, none⟩ ∧ L.length ≤ cap ∧ b < W0.heap.size ∧ nodesAt W0 L b off := Hmem.out.resolve_left (by rintro rfl; simp at hkL)
      obtain ⟨cs, hc9, hcells, hat⟩ := nodes_get W0 bn L off hnodes k hkL
      have hbr : Below W0.heap.size W0 wr := Hb.out.trans hww.below
      have h9 : Node9 wr bn (off + k * 9) cs := ⟨hc9, fun q hq => by rw [hbr.cell (p := ⟨bn, off + k * 9 + q, none⟩) hbn]; exact hcells q hq⟩
      obtain ⟨kq, sq, loq, hiq, nq, aq, lenq, capq, rfl⟩ := at_lit hat
      have hone := at_cell_one hat
      obtain ⟨y, hy⟩ : ∃ y, y = L[k] := ⟨_, rfl⟩
      rw [← hy] at hat
      have hyL : y ∈ L := by rw [hy]; exact List.getElem_mem hkL
      have hnext : l ++ txts (nats sep) (L.take (k + 1)) = (l ++ txts (nats sep) (L.take k)) ++ ((if L.take k = [] then [] else nats sep) ++ y.txt) := by
        rw [List.take_succ_eq_append_getElem hkL, txts_snoc, ← hy, List.append_assoc]
      have htk := txts_take (nats sep) L (k + 1)
      have hbound : (l ++ txts (nats sep) (L.take (k + 1))).length ≤ most := by have := HLen.out; rw [List.length_append]; omega
      have Hnext := Lib.hid (And.intro hnext hbound)
      have H9 := Lib.hid h9
      have Hat := Lib.hid hat
      have HyL := Lib.hid hyL
      have Hbw := Lib.hid hbw
      have Hww := Lib.hid hww
      have Hbr := Lib.hid hbr
      have hBr : W0.heap.size ≤ wr.heap.size := Nat.le_of_lt hbw.lt
      have HBr := Lib.hid hBr
      -- the node's box
      have hn0 : NodeIn (wr.alloc (.cells #[.int .i64 0, .int .u64 0, .int .u64 0, .int .u64 0, .int .u64 0, .int .i64 0, .int .i64 0, .int .i64 0, .slice none 0 0] 30)) wr.heap.size #[.int .i64 0, .int .u64 0, .int .u64 0, .int .u64 0, .int .u64 0, .int .i64 0, .int .i64 0, .int .i64 0, .slice none 0 0] := World.alloc_heap_new wr _
      have hal : Below wr.heap.size wr (wr.alloc (.cells #[.int .i64 0, .int .u64 0, .int .u64 0, .int .u64 0, .int .u64 0, .int .i64 0, .int .i64 0, .int .i64 0, .slice none 0 0] 30)) := (Below.refl _ _).alloc (Nat.le_refl _) _
      have Hn0 := Lib.hid (And.intro hn0 hal)
      clear hnext hbound htk h9 hat hy hyL hbw hww hbr hBr hn0 hal hcells hnodes hc9 hone hkL hbn
      go_upto_region 3 with (first | (refine wpList_load_node rfl _ rfl bn (off + k * 9) _ rfl H9.out ?_) | (refine wpList_store_node rfl _ _ rfl wr.heap.size _ #[.int .i64 kq, .int .u64 (word sq 0), .int .u64 (word sq 1), .int .u64 (word sq 2), .int .u64 (word sq 3), .int .i64 loq, .int .i64 hiq, .int .i64 nq, .slice aq lenq capq] rfl rfl Hn0.out.1 rfl rfl (by simp [Value.oneCell']) ?_; refine Hid.out ?_))
      refine Lib.hid ?_
      intro w3 hn3 ho3
      have hb3 := ho3.below Hn0.out.2 (Nat.le_refl _)
      have hlt3 : wr.heap.size < w3.heap.size := lt_of_block hn3
      have hW3 := Lib.hid (And.intro (Hbw.out.later hb3) (And.intro (Hww.out.trans (Wrote.later v' hb3 HBr.out)) (Hbr.out.trans (hb3.mono HBr.out))))
      have hne3 : wr.heap.size ≠ W0.heap.size := by have := Hbw.out.lt; omega
      have Hne3 := Lib.hid hne3
      have Hn3 := Lib.hid hn3
      have Hlt3 := Lib.hid hlt3
      obtain ⟨n1, m1, hym⟩ := Hforms.out y HyL.out
      have Hym := Lib.hid hym
      clear hn3 ho3 hb3 Hn0 H9 Hbw Hww Hbr hlt3 hne3 hym
      by_cases hk0 : k = 0
      · subst hk0
        have Hb9 := Lib.hid (node9_in (cs := [.int .i64 kq, .int .u64 (word sq 0), .int .u64 (word sq 1), .int .u64 (word sq 2), .int .u64 (word sq 3), .int .i64 loq, .int .i64 hiq, .int .i64 nq, .slice aq lenq capq]) Hn3.out rfl)
        go_wp2_with (first | (refine wpList_load_node rfl _ rfl wr.heap.size 0 _ rfl Hb9.out ?_))
        refine (HL.out y HyL.out _ n1 m1 _ v' w3 Hat.out Hym.out hW3.out.2.2 hW3.out.1 (by have := Hnext.out; rw [this.1] at this; have h2 := this.2; simp at h2 ⊢; omega)).mono ?_
        rintro e w5 ⟨rfl, v5, h5, hw5⟩
        have H5 := Lib.hid (And.intro h5 (hW3.out.2.1.trans hw5))
        clear h5 hw5
        go_wp2_with fail
        go_roundw
        case rel => exact ⟨1, v5, by omega, by go_num, by rw [Hnext.out.1]; simpa using H5.out.1, H5.out.2⟩
        case measure => simp [intOf]; omega
      · have hd0 : decide ((k : Int) > 0) = true := by simp; omega
        have hd1 : decide (0 < k) = true := by simp; omega
        have htkne : L.take k ≠ [] := by
          intro h
          have := congrArg List.length h
          rw [List.length_take, ← HN.out] at this
          simp at this; omega
        have hnx := Hnext.out
        rw [if_neg htkne] at hnx
        have Hnx := Lib.hid hnx
        clear htkne hnx Hnext hk0
        go_wp2_with fail
        refine (write_text W0.heap.size W0.heap.size _ v' sep _ hW3.out.1 (by have := Hnx.out; rw [this.1] at this; have h2 := this.2; simp only [List.length_append, nats_length, most] at h2 ⊢; omega) (Nat.le_trans HBr.out (Nat.le_of_lt Hlt3.out))).mono ?_
        rintro e w4 ⟨rfl, v4, h4, hw4⟩
        have hn4 : NodeIn w4 wr.heap.size _ := (hw4.keep wr.heap.size Hlt3.out Hne3.out (hW3.out.1.ownKind Hn3.out (by decide))).trans Hn3.out
        have Hb9 := Lib.hid (node9_in (cs := [.int .i64 kq, .int .u64 (word sq 0), .int .u64 (word sq 1), .int .u64 (word sq 2), .int .u64 (word sq 3), .int .i64 loq, .int .i64 hiq, .int .i64 nq, .slice aq lenq capq]) hn4 rfl)
        have H4 := Lib.hid (And.intro h4 (And.intro (hW3.out.2.1.trans hw4) (hW3.out.2.2.trans hw4.below)))
        clear hn4 h4 hw4
        go_wp2_with (first | (refine wpList_load_node rfl _ rfl wr.heap.size 0 _ rfl Hb9.out ?_))
        refine (HL.out y HyL.out _ n1 m1 _ v4 w4 Hat.out Hym.out H4.out.2.2 H4.out.1 (by have := Hnx.out; rw [this.1] at this; have h2 := this.2; simp only [List.length_append] at h2 ⊢; omega)).mono ?_
        rintro e w5 ⟨rfl, v5, h5, hw5⟩
        have H5 := Lib.hid (And.intro h5 (H4.out.2.1.trans hw5))
        clear h5 hw5
        go_wp2_with fail
        go_roundw
        case rel => exact ⟨k + 1, v5, by omega, by go_num, by rw [Hnx.out.1, ← List.append_assoc]; exact H5.out.1, H5.out.2⟩
        case measure => simp [intOf]; omega
    · have hd : decide ((k : Int) < n) = false := by simp; omega
      obtain rfl : k = n := by omega
      have hall : L.take k = L := List.take_of_length_le (by rw [← HN.out]; exact Nat.le_refl _)
      rw [hall] at hbw
      have Hfin := Lib.hid (And.intro hbw hww)
      clear hall hbw hww
      go_wp2_with fail
      go_end0
      exact ⟨rfl, v', Hfin.out⟩
/-- what writeAll promises of a list -/
def AllOk (W0 : World) (a : Option Addr) (cap : Nat) (L : List Nd) : Prop := ∀ (sep : ByteArray) (l : List Nat) (v : Value) (w : World), Below W0.heap.size W0 w → Bld w W0.heap.size W0.heap.size l v → l.length + (txts (nats sep) L).length ≤ most →
  Calls Tryd.prog 70 #[.pointer (some ⟨W0.heap.size, 0, none⟩), .slice a L.length cap, .string sep] w (Writes W0.heap.size w v (l ++ txts (nats sep) L))
set_option maxHeartbeats 4000000 in
theorem wenclosed_walk {W0 : World} {a : Option Addr} {cap : Nat} {L : List Nd} (hA : AllOk W0 a cap L) (o : ByteArray) (l : List Nat) (v : Value) (w : World) (hb : Below W0.heap.size W0 w) (hbld : Bld w W0.heap.size W0.heap.size l v)
    (hlen : l.length + (nats o ++ (txts [] L ++ [41])).length ≤ most) :
    Calls Tryd.prog 72 #[.pointer (some ⟨W0.heap.size, 0, none⟩), .string o, .slice a L.length cap] w (Writes W0.heap.size w v (l ++ (nats o ++ (txts [] L ++ [41])))) := by
  have hwt := write_text W0.heap.size W0.heap.size l v o w hbld (by simp only [List.length_append, nats_length, most] at hlen ⊢; omega) (Nat.le_of_lt hbld.lt)
  have hB := Nat.le_of_lt hbld.lt
  have HB := Lib.hid hB
  have Hlen := Lib.hid hlen
  have HA := Lib.hid hA
  have Hb := Lib.hid hb
  obtain ⟨n, hn⟩ : ∃ n, n = L.length := ⟨_, rfl⟩
  rw [← hn]
  have HN := Lib.hid hn
  clear hB hlen hA hb hbld hn
  go_enter Tryd.func72, Tryd.ntmps72
  go_wp2_with fail
  refine hwt.mono ?_
  rintro e w1 ⟨rfl, v1, h1, hw1⟩
  have H1 := Lib.hid (And.intro h1 hw1)
  clear h1 hw1 hwt
  go_wp2_with fail
  rw [HN.out]
  refine (HA.out ⟨#[]⟩ _ v1 w1 (Hb.out.trans H1.out.2.below) H1.out.1 (by have := Hlen.out; simp only [List.length_append, show nats ⟨#[]⟩ = [] from rfl] at this ⊢; omega)).mono ?_
  rintro e w2 ⟨rfl, v2, h2, hw2⟩
  have H2 := Lib.hid (And.intro h2 (H1.out.2.trans hw2))
  clear h2 hw2
  rw [← HN.out]
  go_wp2_with fail
  refine (write_byte W0.heap.size W0.heap.size _ v2 41 w2 H2.out.1 (by have := Hlen.out; simp only [List.length_append, most, show nats ⟨#[]⟩ = [] from rfl, List.length_singleton] at this ⊢; omega) (Nat.le_of_lt H2.out.1.lt)).mono ?_
  rintro e w3 ⟨rfl, v3, h3, hw3⟩
  have H3 := Lib.hid (And.intro h3 (H2.out.2.trans hw3))
  clear h3 hw3
  go_wp2_with fail
  go_end0
  exact ⟨rfl, v3, by have := H3.out.1; rw [show nats ⟨#[]⟩ = [] from rfl] at this; simpa using this, H3.out.2⟩
theorem bounds_len {lo hi : Int} (h : BoundsOk lo hi) : (boundsT lo hi).length ≤ 20 := by
  obtain ⟨h0, h1, h2⟩ := h
  unfold boundsT
  have a := numText_len lo.toNat (by omega)
  have b : hi ≠ -1 → (numText hi.toNat).length ≤ 3 := fun hn => numText_len hi.toNat (by omega)
  repeat' split
  all_goals simp
  · omega
  · omega
  · have := b (by assumption); omega
/-- the facts of a node's box -/
theorem box_cells {W : World} {b : Nat} {c0 c1 c2 c3 c4 c5 c6 c7 c8 : Value} (h : NodeIn W b #[c0, c1, c2, c3, c4, c5, c6, c7, c8]) :
    W.cell? ⟨b, 0, none⟩ = some c0 ∧ W.cell? ⟨b, 5, none⟩ = some c5 ∧ W.cell? ⟨b, 6, none⟩ = some c6 ∧ W.cell? ⟨b, 8, none⟩ = some c8 := by
  refine ⟨?_, ?_, ?_, ?_⟩ <;> (rw [cells_at h]; rfl)
theorem box_set {W : World} {b : Nat} {k : Int} {s : BitVec 256} {lo hi n : Int} {v : Value} (h : NodeIn W b #[.int .i64 k, .int .u64 (word s 0), .int .u64 (word s 1), .int .u64 (word s 2), .int .u64 (word s 3), .int .i64 lo, .int .i64 hi, .int .i64 n, v]) : Set4 W b 1 s := by
  intro q hq
  rw [cells_at h]
  match q, hq with
  | 0, _ => rfl
  | 1, _ => rfl
  | 2, _ => rfl
  | 3, _ => rfl
set_option maxHeartbeats 8000000 in
theorem write_step {W0 : World} (hW : Base W0) (x : Nd) (hx : ∀ y ∈ x.nodes, WriteOk W0 y) : WriteOk W0 x := by
  intro cs next m l v w hat hf hb hbld hlen
  cases x with
  | mk k s lo hi n L =>
    have hx : ∀ y ∈ L, WriteOk W0 y := hx
    rw [at_mk] at hat
    obtain ⟨_, _, _, _, a, cap, rfl, hmax, hmem⟩ := hat
    obtain ⟨hfo, hfs⟩ := form_fields hf
    have hA : AllOk W0 a cap L := fun sep l v w hb hbld hl => writeAll_walk k L hx _ _ hfs a cap hmax (hmem.imp_left List.length_eq_zero_iff.1) sep l v w hb hbld hl
    have HAll := Lib.hid hA
    have htxt := txt_mk k s lo hi n L
    rw [htxt] at hlen ⊢
    obtain ⟨W, hWe⟩ : ∃ W, W = w.alloc (.cells #[.int .i64 k, .int .u64 (word s 0), .int .u64 (word s 1), .int .u64 (word s 2), .int .u64 (word s 3), .int .i64 lo, .int .i64 hi, .int .i64 n, .slice a L.length cap] 30) := ⟨_, rfl⟩
    have hbox : NodeIn W w.heap.size #[.int .i64 k, .int .u64 (word s 0), .int .u64 (word s 1), .int .u64 (word s 2), .int .u64 (word s 3), .int .i64 lo, .int .i64 hi, .int .i64 n, .slice a L.length cap] := by rw [hWe]; exact World.alloc_heap_new w _
    have hal : Below w.heap.size w W := by rw [hWe]; exact (Below.refl _ _).alloc (Nat.le_refl _) _
    have hB : W0.heap.size ≤ w.heap.size := Nat.le_of_lt hbld.lt
    have hbW : Below W0.heap.size W0 W := hb.trans (hal.mono hB)
    have hbldW := hbld.later hal
    have hwW : Wrote W0.heap.size W0.heap.size w v W v := Wrote.later v hal hB
    have hBW : W0.heap.size ≤ W.heap.size := Nat.le_trans hB hal.size
    obtain ⟨hTW, hPW⟩ := hW.later hbW
    have hne : w.heap.size ≠ W0.heap.size := by have := hbld.lt; omega
    have hkeep : ∀ (w' : World) (v' : Value), Wrote W0.heap.size W0.heap.size W v w' v' → NodeIn w' w.heap.size #[.int .i64 k, .int .u64 (word s 0), .int .u64 (word s 1), .int .u64 (word s 2), .int .u64 (word s 3), .int .i64 lo, .int .i64 hi, .int .i64 n, .slice a L.length cap] := fun w' v' h => (h.keep w.heap.size (lt_of_block hbox) hne (hbldW.ownKind hbox (by decide))).trans hbox
    obtain ⟨b0, b5, b6, b8⟩ := box_cells hbox
    have HSet := Lib.hid (box_set hbox)
    have Hkeep := Lib.hid hkeep
    have HW := Lib.hid (And.intro hbldW (And.intro hwW (And.intro hbW hBW)))
    have HT := Lib.hid (And.intro hTW hPW)
    have Hlen := Lib.hid hlen
    have Hfields := Lib.hid (fields_cases hfo)
    obtain ⟨N, hN⟩ : ∃ N, N = L.length := ⟨_, rfl⟩
    rw [← hN] at b8 hWe
    rw [← hN]
    have HN := Lib.hid hN
    clear hf hfs hfo hx hmem hmax hA htxt hbox hal hB hb hbW hbldW hbld hwW hBW hTW hPW hne hkeep hlen hN
    have hkind : k = 1 ∨ k = 2 ∨ k = 3 ∨ k = 4 ∧ BoundsOk lo hi ∨ k = 5 ∨ k = 6 := by
      rcases Hfields.out with h | h | h | h | h | h
      · exact .inl h.1
      · exact .inr (.inl h.1)
      · exact .inr (.inr (.inl h.1))
      · exact .inr (.inr (.inr (.inl ⟨h.1, h.2.2.2.1⟩)))
      · exact .inr (.inr (.inr (.inr (.inl h.1))))
      · exact .inr (.inr (.inr (.inr (.inr h.1))))
    clear Hfields
    rcases hkind with rfl | rfl | rfl | ⟨rfl, hbo⟩ | rfl | rfl
    · have hsw := set_walk s W HT.out.1
      have Hsw := Lib.hid hsw
      clear hsw
      show Calls _ _ _ _ (Writes _ _ _ (l ++ setT s))
      have Hlen2 : Hid (l.length + (setT s).length ≤ most) := Hlen
      clear Hlen
      go_enter Tryd.func37, Tryd.ntmps37
      go_wp2_with fail
      rw [← hWe]
      refine Hsw.out.mono ?_
      rintro e w1 ⟨⟨t, rfl, ht⟩, hb1⟩
      have H1 := Lib.hid (And.intro ht (And.intro (HW.out.1.later hb1) (HW.out.2.1.trans (Wrote.later v hb1 HW.out.2.2.2))))
      have hts : t.size = (setT s).length := size_nats ht
      have Hts := Lib.hid hts
      clear hb1 ht hts hWe
      go_wp2_with fail
      refine (write_text W0.heap.size W0.heap.size _ v t _ H1.out.2.1 (by have := Hlen2.out; rw [Hts.out]; simp only [most] at this; omega) (Nat.le_of_lt H1.out.2.1.lt)).mono ?_
      rintro e w2 ⟨rfl, v2, h2, hw2⟩
      have H2 := Lib.hid (And.intro h2 (H1.out.2.2.trans hw2))
      clear h2 hw2
      go_wp2_with fail
      go_end0
      exact ⟨rfl, v2, by have := H2.out.1; rw [H1.out.1] at this; exact this, H2.out.2⟩
    · show Calls _ _ _ _ (Writes _ _ _ (l ++ txts [] L))
      have Hlen2 : Hid (l.length + (txts [] L).length ≤ most) := Hlen
      clear Hlen
      have hc := HAll.out ⟨#[]⟩ l v W HW.out.2.2.1 HW.out.1 Hlen2.out
      rw [← HN.out] at hc
      go_enter Tryd.func37, Tryd.ntmps37
      go_wp2_with fail
      rw [← hWe]
      clear hWe
      refine hc.mono ?_
      rintro e w1 ⟨rfl, v1, h1, hw1⟩
      have H1 := Lib.hid (And.intro h1 (HW.out.2.1.trans hw1))
      clear h1 hw1 hc
      go_wp2_with fail
      go_end0
      exact ⟨rfl, v1, H1.out⟩
    · show Calls _ _ _ _ (Writes _ _ _ (l ++ txts [124] L))
      have Hlen2 : Hid (l.length + (txts [124] L).length ≤ most) := Hlen
      clear Hlen
      have hc := HAll.out ⟨#[124]⟩ l v W HW.out.2.2.1 HW.out.1 Hlen2.out
      rw [← HN.out] at hc
      go_enter Tryd.func37, Tryd.ntmps37
      go_wp2_with fail
      rw [← hWe]
      clear hWe
      refine hc.mono ?_
      rintro e w1 ⟨rfl, v1, h1, hw1⟩
      have H1 := Lib.hid (And.intro h1 (HW.out.2.1.trans hw1))
      clear h1 hw1 hc
      go_wp2_with fail
      go_end0
      exact ⟨rfl, v1, H1.out⟩
    · have Hbo := Lib.hid hbo
      clear hbo
      show Calls _ _ _ _ (Writes _ _ _ (l ++ (txts [] L ++ boundsT lo hi)))
      have Hlen2 : Hid (l.length + (txts [] L ++ boundsT lo hi).length ≤ most) := Hlen
      clear Hlen
      have hc := HAll.out ⟨#[]⟩ l v W HW.out.2.2.1 HW.out.1 (by have := Hlen2.out; rw [List.length_append] at this; show l.length + (txts [] L).length ≤ most; omega)
      rw [← HN.out] at hc
      go_enter Tryd.func37, Tryd.ntmps37
      go_wp2_with fail
      rw [← hWe]
      clear hWe
      refine hc.mono ?_
      rintro e w1 ⟨rfl, v1, h1, hw1⟩
      obtain ⟨_, d5, d6, _⟩ := box_cells (Hkeep.out _ _ hw1)
      have hb1 : Below W0.heap.size W w1 := hw1.below
      have H1 := Lib.hid (And.intro h1 (HW.out.2.1.trans hw1))
      have hP1 : PowAt w1 := (hW.later (HW.out.2.2.1.trans hb1)).2
      have HP1 := Lib.hid hP1
      clear h1 hw1 hc hb1 hP1
      go_wp2_with fail
      refine (bounds_walk lo hi Hbo.out _ HP1.out).mono ?_
      rintro e w2 ⟨⟨t, rfl, ht⟩, hb2⟩
      have hB1 : W0.heap.size ≤ w1.heap.size := Nat.le_of_lt H1.out.1.lt
      have H2 := Lib.hid (And.intro ht (And.intro (H1.out.1.later hb2) (H1.out.2.trans (Wrote.later v1 hb2 hB1))))
      have Hts := Lib.hid (size_nats ht)
      clear ht hb2 hB1
      go_wp2_with fail
      refine (write_text W0.heap.size W0.heap.size _ v1 t _ H2.out.2.1 (by have := Hlen2.out; rw [Hts.out]; simp only [most, List.length_append, show nats ⟨#[]⟩ = [] from rfl] at this ⊢; omega) (Nat.le_of_lt H2.out.2.1.lt)).mono ?_
      rintro e w3 ⟨rfl, v3, h3, hw3⟩
      have H3 := Lib.hid (And.intro h3 (H2.out.2.2.trans hw3))
      clear h3 hw3
      go_wp2_with fail
      go_end0
      exact ⟨rfl, v3, by have := H3.out.1; rw [H2.out.1, List.append_assoc] at this; exact this, H3.out.2⟩
    · show Calls _ _ _ _ (Writes _ _ _ (l ++ (40 :: (txts [] L ++ [41]))))
      have Hlen2 : Hid (l.length + (40 :: (txts [] L ++ [41])).length ≤ most) := Hlen
      clear Hlen
      have hc := wenclosed_walk HAll.out ⟨#[40]⟩ l v W HW.out.2.2.1 HW.out.1 Hlen2.out
      rw [← HN.out] at hc
      go_enter Tryd.func37, Tryd.ntmps37
      go_wp2_with fail
      rw [← hWe]
      clear hWe
      refine hc.mono ?_
      rintro e w1 ⟨rfl, v1, h1, hw1⟩
      have H1 := Lib.hid (And.intro h1 (HW.out.2.1.trans hw1))
      clear h1 hw1 hc
      go_wp2_with fail
      go_end0
      exact ⟨rfl, v1, H1.out⟩
    · show Calls _ _ _ _ (Writes _ _ _ (l ++ (40 :: 63 :: 58 :: (txts [] L ++ [41]))))
      have Hlen2 : Hid (l.length + (40 :: 63 :: 58 :: (txts [] L ++ [41])).length ≤ most) := Hlen
      clear Hlen
      have hc := wenclosed_walk HAll.out ⟨#[40, 63, 58]⟩ l v W HW.out.2.2.1 HW.out.1 Hlen2.out
      rw [← HN.out] at hc
      go_enter Tryd.func37, Tryd.ntmps37
      go_wp2_with fail
      rw [← hWe]
      clear hWe
      refine hc.mono ?_
      rintro e w1 ⟨rfl, v1, h1, hw1⟩
      have H1 := Lib.hid (And.intro h1 (HW.out.2.1.trans hw1))
      clear h1 hw1 hc
      go_wp2_with fail
      go_end0
      exact ⟨rfl, v1, H1.out⟩
theorem write_any {W0 : World} (hW : Base W0) : ∀ (N : Nat) (x : Nd), x.count ≤ N → WriteOk W0 x
  | 0, x, h => absurd h (by have := x.count_pos; omega)
  | N + 1, x, h => write_step hW x fun y hy => write_any hW N y (by have := count_mem hy; omega)
end Go.Proofs.YtjkhmmdjgancmaaDoor
/-! print.Node and print.Text, walked: the text of every node of a valid pattern, of every pattern. -/
namespace Go.Proofs.YtjkhmmdjgancmaaDoor
set_option maxRecDepth 100000
open Go.RowKit
/-! how long texts are, and of what -/
theorem setT_len (s : BitVec 256) : (setT s).length ≤ 900 := by
  unfold setT
  have h1 := items_len s
  have h2 := items_len (~~~s)
  have h3 := whole_len s
  repeat' split
  · simp
  · simp
  · unfold singleT; split <;> simp
  · unfold namedT; simp; omega
  · simp; omega
  · simp; omega
mutual
theorem txt_len : ∀ (x : Nd) (next : Nat) {m : Nat}, x.form next = some m → x.txt.length + 1 ≤ 1000 * x.count
  | .mk k s lo hi n l, next, m, h => by
    obtain ⟨hf, hl⟩ := form_fields h
    obtain ⟨h1, h2, _⟩ := txts_len k l _ hl
    have hs := setT_len s
    rw [count_mk, txt_mk]
    rcases fields_cases hf with ⟨rfl, _⟩ | ⟨rfl, _⟩ | ⟨rfl, _⟩ | ⟨rfl, _, _, hb, _⟩ | ⟨rfl, _⟩ | ⟨rfl, _⟩
    · show (setT s).length + 1 ≤ _; omega
    · show (txts [] l).length + 1 ≤ _; omega
    · show (txts [124] l).length + 1 ≤ _; omega
    · have := bounds_len hb
      show (txts [] l ++ boundsT lo hi).length + 1 ≤ _
      rw [List.length_append]; omega
    · show (40 :: (txts [] l ++ [41])).length + 1 ≤ _
      simp; omega
    · show (40 :: 63 :: 58 :: (txts [] l ++ [41])).length + 1 ≤ _
      simp; omega
theorem txts_len : ∀ (k : Int) (l : List Nd) (next : Nat) {m : Nat}, forms k l next = some m → (txts [] l).length ≤ 1000 * counts l ∧ (txts [124] l).length ≤ 1000 * counts l ∧ (txtsMore [] l).length ≤ 1000 * counts l ∧ (txtsMore [124] l).length ≤ 1000 * counts l
  | k, [], next, m, h => by rw [txts_nil, txts_nil, more_nil, more_nil]; simp
  | k, x :: l, next, m, h => by
    obtain ⟨_, m1, h1, h2⟩ := forms_step h
    have a := txt_len x next h1
    obtain ⟨_, _, b, c⟩ := txts_len k l m1 h2
    rw [txts_cons, txts_cons, more_cons, more_cons]
    have e : counts (x :: l) = x.count + counts l := by rw [counts]
    simp only [List.length_append, List.length_nil, List.length_cons]
    omega
end
theorem numText_lt (n : Nat) : ∀ c ∈ numText n, c < 256 := by
  intro c hc
  have := (numText_dig n).2.1 c hc
  simp [isDig] at this
  omega
theorem bounds_lt (lo hi : Int) : ∀ c ∈ boundsT lo hi, c < 256 := by
  have a := numText_lt lo.toNat
  have b := numText_lt hi.toNat
  intro c hc
  unfold boundsT at hc
  repeat' split at hc
  all_goals simp at hc
  · omega
  · omega
  · omega
  · rcases hc with hc | hc | hc | hc
    · omega
    · exact a c hc
    · omega
    · omega
  · rcases hc with hc | hc | hc
    · omega
    · exact a c hc
    · omega
  · rcases hc with hc | hc | hc | hc | hc
    · omega
    · exact a c hc
    · omega
    · exact b c hc
    · omega
theorem setT_lt (s : BitVec 256) : ∀ c ∈ setT s, c < 256 := by
  intro c hc
  unfold setT at hc
  split at hc
  · simp at hc
  split at hc
  · simp at hc; omega
  split at hc
  · rename_i _ _ h1
    obtain ⟨b, hb⟩ := List.length_eq_one_iff.1 h1
    have hb2 : b < 256 := by have : b ∈ elems s := by rw [hb]; simp
                             exact ((mem_elems s b).1 this).1
    rw [hb] at hc
    exact single_lt b hb2 c hc
  split at hc
  · unfold namedT at hc
    simp only [List.mem_cons, List.mem_append, List.mem_map, List.not_mem_nil, or_false] at hc
    rcases hc with hc | hc | hc | ⟨x, _, hc⟩ | hc | hc | hc
    · omega
    · omega
    · omega
    · rw [← hc]; exact x.toNat_lt
    · omega
    · omega
    · omega
  split at hc
  · simp only [List.mem_cons, List.mem_append, List.not_mem_nil, or_false] at hc
    rcases hc with hc | hc | hc | hc
    · omega
    · omega
    · exact items_lt _ c hc
    · omega
  · simp only [List.mem_cons, List.mem_append, List.not_mem_nil, or_false] at hc
    rcases hc with hc | hc | hc
    · omega
    · exact items_lt _ c hc
    · omega
mutual
theorem txt_lt : ∀ (x : Nd), ∀ c ∈ x.txt, c < 256
  | .mk k s lo hi n l => by
    have h := txts_lt l
    intro c hc
    rw [txt_mk] at hc
    have h0 := (h [] (by simp) c).1
    split at hc
    · exact setT_lt s c hc
    split at hc
    · exact (h [124] (by simp) c).1 hc
    split at hc
    · rcases List.mem_append.1 hc with hc | hc
      · exact h0 hc
      · exact bounds_lt lo hi c hc
    split at hc
    · simp only [List.mem_cons, List.mem_append, List.not_mem_nil, or_false] at hc
      rcases hc with hc | hc | hc
      · omega
      · exact h0 hc
      · omega
    split at hc
    · simp only [List.mem_cons, List.mem_append, List.not_mem_nil, or_false] at hc
      rcases hc with hc | hc | hc | hc | hc
      · omega
      · omega
      · omega
      · exact h0 hc
      · omega
    · exact h0 hc
theorem txts_lt : ∀ (l : List Nd) (sep : List Nat), (∀ c ∈ sep, c < 256) → ∀ c, (c ∈ txts sep l → c < 256) ∧ (c ∈ txtsMore sep l → c < 256)
  | [], sep, _, c => by rw [txts_nil, more_nil]; simp
  | x :: l, sep, hs, c => by
    have h1 := txt_lt x c
    have h2 := (txts_lt l sep hs c).2
    rw [txts_cons, more_cons]
    constructor
    · intro hc
      rcases List.mem_append.1 hc with hc | hc
      · exact h1 hc
      · exact h2 hc
    · intro hc
      rcases List.mem_append.1 hc with hc | hc
      · exact hs c hc
      · rcases List.mem_append.1 hc with hc | hc
        · exact h1 hc
        · exact h2 hc
end
set_option maxHeartbeats 4000000 in
/-- Node, of a node as it stands in a valid pattern -/
theorem node_text {x : Nd} {cs : List Value} {w : World} (hat : Nd.at w x cs) {next m : Nat} (hf : x.form next = some m) (hc : x.count ≤ 2000) (hT : TabAt 0 Lib.deBruijn64tab w) (hP : PowAt w) :
    Calls Tryd.prog 15 #[.agg cs.toArray] w (TextIs w x.txt) := by
  obtain ⟨kq, sq, loq, hiq, nq, aq, lenq, capq, rfl⟩ := at_lit hat
  obtain ⟨W0, hW0⟩ : ∃ W0, W0 = w.alloc (.cells #[.int .i64 kq, .int .u64 (word sq 0), .int .u64 (word sq 1), .int .u64 (word sq 2), .int .u64 (word sq 3), .int .i64 loq, .int .i64 hiq, .int .i64 nq, .slice aq lenq capq] 30) := ⟨_, rfl⟩
  have hal : Below w.heap.size w W0 := by rw [hW0]; exact (Below.refl _ _).alloc (Nat.le_refl _) _
  have hbox : NodeIn W0 w.heap.size #[.int .i64 kq, .int .u64 (word sq 0), .int .u64 (word sq 1), .int .u64 (word sq 2), .int .u64 (word sq 3), .int .i64 loq, .int .i64 hiq, .int .i64 nq, .slice aq lenq capq] := by rw [hW0]; exact World.alloc_heap_new w _
  have hat0 := Nd.at_below hal (Nat.le_refl _) _ _ hat
  have hbase : Base W0 := ⟨tab_below hT hal (tab_pos hT), pow_below hP hal⟩
  have hb1 : Below W0.heap.size W0 (W0.alloc (.cells #[.pointer none, .slice none 0 0] 76)) := (Below.refl _ _).alloc (Nat.le_refl _) _
  have hlen := txt_len x next hf
  have hwr := write_any hbase x.count x (Nat.le_refl _) _ next m [] _ _ hat0 hf hb1 (bld_fresh W0) (by simp only [List.length_nil, most]; omega)
  rw [List.nil_append] at hwr
  have hlt := lt_of_block hbox
  have Hb9 := Lib.hid (node9_in (cs := [.int .i64 kq, .int .u64 (word sq 0), .int .u64 (word sq 1), .int .u64 (word sq 2), .int .u64 (word sq 3), .int .i64 loq, .int .i64 hiq, .int .i64 nq, .slice aq lenq capq]) ((hb1.block w.heap.size hlt).trans hbox) rfl)
  have Hwr := Lib.hid hwr
  have Hal := Lib.hid (And.intro hal hb1)
  have Hlt := Lib.hid (txt_lt x)
  clear hat hf hc hT hP hal hbox hat0 hbase hb1 hlen hwr hlt
  go_enter Tryd.func15, Tryd.ntmps15
  go_upto_region 1 with fail
  rw [← hW0]
  clear hW0
  go_wp2_with (first | (refine wpList_load_node rfl _ rfl w.heap.size 0 _ rfl Hb9.out ?_))
  refine Hwr.out.mono ?_
  rintro e w2 ⟨rfl, v2, h2, hw2⟩
  have H2 := Lib.hid (And.intro h2 (Hal.out.2.trans hw2.below))
  clear h2 hw2
  go_wp2_with fail
  refine (bld_string _ _ _ v2 _ H2.out.1 Hlt.out (Nat.le_of_lt H2.out.1.lt)).mono ?_
  rintro e w3 ⟨rfl, hb3⟩
  have Hb3 := Lib.hid hb3
  clear hb3
  go_wp2_with fail
  go_ret
  exact ⟨⟨_, rfl, nats_bytes Hlt.out⟩, Hal.out.1.trans ((H2.out.2.trans Hb3.out).mono Hal.out.1.size)⟩
/-- what Text answers -/
def textOf (st en : Bool) (x : Nd) (gr : Int) : List Nat × Int := if goodP x gr then (if 1024 < (flagT st en x).length then ([], 4) else (flagT st en x, 0)) else ([], 1)
def TextPost (w : World) (r : List Nat × Int) (e : Ending) (w' : World) : Prop := (∃ t : ByteArray, e = .returned (.tuple #[.string t, .int .i64 r.2]) ∧ nats t = r.1) ∧ Below w.heap.size w w'
theorem flag_nats (st en : Bool) (x : Nd) (t : ByteArray) (h : nats t = x.txt) : nats ((if st then ⟨#[94]⟩ ++ t else t) ++ (if en then ⟨#[36]⟩ else ⟨#[]⟩)) = flagT st en x := by
  unfold flagT
  cases st <;> cases en <;> simp only [if_true, if_false, Bool.false_eq_true, nats_add, h, List.append_assoc] <;> rfl
set_option maxHeartbeats 8000000 in
theorem text_walk (st en : Bool) {x : Nd} {cs : List Value} {gr : Int} {w : World} (hat : Nd.at w x cs) (hT : TabAt 0 Lib.deBruijn64tab w) (hP : PowAt w) :
    Calls Tryd.prog 11 #[.agg (patCells st en cs gr).toArray] w (TextPost w (textOf st en x gr)) := by
  obtain ⟨kq, sq, loq, hiq, nq, aq, lenq, capq, rfl⟩ := at_lit hat
  have hal : Below w.heap.size w (w.alloc (.cells #[.bool st, .bool en, .int .i64 kq, .int .u64 (word sq 0), .int .u64 (word sq 1), .int .u64 (word sq 2), .int .u64 (word sq 3), .int .i64 loq, .int .i64 hiq, .int .i64 nq, .slice aq lenq capq, .int .i64 gr] 32)) := (Below.refl _ _).alloc (Nat.le_refl _) _
  have hpat := pat_new w #[.bool st, .bool en, .int .i64 kq, .int .u64 (word sq 0), .int .u64 (word sq 1), .int .u64 (word sq 2), .int .u64 (word sq 3), .int .i64 loq, .int .i64 hiq, .int .i64 nq, .slice aq lenq capq, .int .i64 gr]
  obtain ⟨W, hW⟩ : ∃ W, W = w.alloc (.cells #[.bool st, .bool en, .int .i64 kq, .int .u64 (word sq 0), .int .u64 (word sq 1), .int .u64 (word sq 2), .int .u64 (word sq 3), .int .i64 loq, .int .i64 hiq, .int .i64 nq, .slice aq lenq capq, .int .i64 gr] 32) := ⟨_, rfl⟩
  rw [← hW] at hal hpat
  have hgd := good_walk st en gr (Nd.at_below hal (Nat.le_refl _) _ _ hat)
  obtain ⟨q, hq⟩ : ∃ q, q = goodP x gr := ⟨_, rfl⟩
  rw [← hq] at hgd
  have Hgd := Lib.hid hgd
  have Hpat := Lib.hid hpat
  have Hal := Lib.hid hal
  have Hat := Lib.hid hat
  have HT := Lib.hid (And.intro hT hP)
  have HQ := Lib.hid hq
  clear hgd hpat hal hat hT hP hq
  show Calls _ _ #[.agg #[.bool st, .bool en, .int .i64 kq, .int .u64 (word sq 0), .int .u64 (word sq 1), .int .u64 (word sq 2), .int .u64 (word sq 3), .int .i64 loq, .int .i64 hiq, .int .i64 nq, .slice aq lenq capq, .int .i64 gr]] _ _
  cases q
  · have HR := Lib.hid (show textOf st en x gr = ([], 1) from by unfold textOf; rw [← HQ.out]; rfl)
    go_enter Tryd.func11, Tryd.ntmps11
    go_upto_region 1 with fail
    rw [← hW]
    clear hW
    go_wp2_with (first | (refine wpList_load_pat rfl _ rfl w.heap.size _ rfl Hpat.out rfl ?_) | (go_at_call 28; refine Hgd.out.mono ?_; rintro e w1 ⟨rfl, hb1⟩; have Hb1 := Lib.hid hb1; clear hb1))
    go_ret2
    exact ⟨⟨⟨#[]⟩, by rw [HR.out]; rfl, by rw [HR.out]; rfl⟩, Hal.out.trans (Hb1.out.mono Hal.out.size)⟩
  · have hg : goodP x gr = true := HQ.out.symm
    obtain ⟨g, hgr, hf⟩ := good_form hg
    have hsz := (good_size hg).1
    have hnt := fun (w2 : World) (hb2 : Below w.heap.size w w2) => node_text (Nd.at_below hb2 (Nat.le_refl _) _ _ Hat.out) hf hsz (tab_below HT.out.1 hb2 (tab_pos HT.out.1)) (pow_below HT.out.2 hb2)
    have hlen := txt_len x 1 hf
    have Hnt := Lib.hid hnt
    have Hlen := Lib.hid (show x.txt.length ≤ 2000000 by omega)
    have HR := Lib.hid (show textOf st en x gr = (if 1024 < (flagT st en x).length then ([], 4) else (flagT st en x, 0)) from by unfold textOf; rw [hg]; rfl)
    clear hgr hf hsz hnt hlen hg HQ
    go_enter Tryd.func11, Tryd.ntmps11
    go_upto_region 1 with fail
    rw [← hW]
    clear hW
    go_upto_region 3 with (first | (refine wpList_load_pat rfl _ rfl w.heap.size _ rfl Hpat.out rfl ?_) | (go_at_call 28; refine Hgd.out.mono ?_; rintro e w1 ⟨rfl, hb1⟩; have Hb1 := Lib.hid hb1; clear hb1))
    have hp1 : PatIn w1 w.heap.size _ := (Hb1.out.block w.heap.size (lt_of_block Hpat.out)).trans Hpat.out
    have hbw1 := Hal.out.trans (Hb1.out.mono Hal.out.size)
    have H9 := Lib.hid (node9_pat hp1)
    have Hp1 := Lib.hid (And.intro hp1 hbw1)
    clear hp1 hbw1
    go_wp2_with (first | (refine wpList_load_node rfl _ rfl w.heap.size 2 _ rfl H9.out ?_))
    refine (Hnt.out _ Hp1.out.2).mono ?_
    rintro e w2 ⟨⟨t, rfl, ht⟩, hb2⟩
    have hp2 : PatIn w2 w.heap.size _ := (hb2.block w.heap.size (lt_of_block Hp1.out.1)).trans Hp1.out.1
    have b0 : w2.cell? ⟨w.heap.size, 0, none⟩ = some (.bool st) := by rw [cells_at hp2]; rfl
    have b1 : w2.cell? ⟨w.heap.size, 1, none⟩ = some (.bool en) := by rw [cells_at hp2]; rfl
    have hts := size_nats ht
    have hsz : t.size ≤ 2000000 := by rw [hts]; exact Hlen.out
    have f1 : ¬ (9223372036854775807 : Int) < 1 + t.size := by omega
    have f2 : ¬ (9223372036854775807 : Int) < 1 + t.size + 1 := by omega
    have f3 : ¬ (9223372036854775807 : Int) < t.size + 1 := by omega
    have Ht := Lib.hid (And.intro ht (Hp1.out.2.trans (hb2.mono Hp1.out.2.size)))
    have HF := Lib.hid (fun st en => flag_nats st en x t ht)
    clear ht hts hb2 hp2
    cases st
    · cases en
      · have e1 : nats (t : ByteArray) = flagT false false x := by have := HF.out false false; simpa [nats_add, nats] using this
        have HE := Lib.hid (And.intro e1 (size_nats e1))
        clear e1
        go_upto_region 8 with fail
        obtain ⟨u, hu⟩ : ∃ u : ByteArray, u = t := ⟨_, rfl⟩
        rw [← hu]
        rw [← hu] at HE
        clear hu
        by_cases hbig : 1024 < u.size
        · have d1 : decide ((u.size : Int) > 1024) = true := by simp; omega
          have HR2 := HR.out
          rw [if_pos (by rw [← HE.out.2]; exact hbig)] at HR2
          have HR3 := Lib.hid HR2
          clear HR2 HR hbig
          go_wp2_with fail
          go_ret2
          exact ⟨⟨⟨#[]⟩, by rw [HR3.out]; rfl, by rw [HR3.out]; rfl⟩, Ht.out.2⟩
        · have d1 : decide ((u.size : Int) > 1024) = false := by simp; omega
          have HR2 := HR.out
          rw [if_neg (by rw [← HE.out.2]; exact hbig)] at HR2
          have HR3 := Lib.hid HR2
          clear HR2 HR hbig
          go_wp2_with fail
          go_ret2
          exact ⟨⟨u, by rw [HR3.out]; rfl, by rw [HR3.out]; exact HE.out.1⟩, Ht.out.2⟩
      · have e1 : nats (t ++ ⟨#[36]⟩ : ByteArray) = flagT false true x := by have := HF.out false true; simpa [nats_add, nats] using this
        have HE := Lib.hid (And.intro e1 (size_nats e1))
        clear e1
        go_upto_region 8 with fail
        obtain ⟨u, hu⟩ : ∃ u : ByteArray, u = t ++ ⟨#[36]⟩ := ⟨_, rfl⟩
        rw [← hu] at HE ⊢
        clear hu
        by_cases hbig : 1024 < u.size
        · have d1 : decide ((u.size : Int) > 1024) = true := by simp; omega
          have HR2 := HR.out
          rw [if_pos (by rw [← HE.out.2]; exact hbig)] at HR2
          have HR3 := Lib.hid HR2
          clear HR2 HR hbig
          go_wp2_with fail
          go_ret2
          exact ⟨⟨⟨#[]⟩, by rw [HR3.out]; rfl, by rw [HR3.out]; rfl⟩, Ht.out.2⟩
        · have d1 : decide ((u.size : Int) > 1024) = false := by simp; omega
          have HR2 := HR.out
          rw [if_neg (by rw [← HE.out.2]; exact hbig)] at HR2
          have HR3 := Lib.hid HR2
          clear HR2 HR hbig
          go_wp2_with fail
          go_ret2
          exact ⟨⟨u, by rw [HR3.out]; rfl, by rw [HR3.out]; exact HE.out.1⟩, Ht.out.2⟩
    · cases en
      · have e1 : nats (⟨#[94]⟩ ++ t : ByteArray) = flagT true false x := by have := HF.out true false; simpa [nats_add, nats] using this
        have HE := Lib.hid (And.intro e1 (size_nats e1))
        clear e1
        go_upto_region 8 with fail
        obtain ⟨u, hu⟩ : ∃ u : ByteArray, u = ⟨#[94]⟩ ++ t := ⟨_, rfl⟩
        rw [← hu] at HE ⊢
        clear hu
        by_cases hbig : 1024 < u.size
        · have d1 : decide ((u.size : Int) > 1024) = true := by simp; omega
          have HR2 := HR.out
          rw [if_pos (by rw [← HE.out.2]; exact hbig)] at HR2
          have HR3 := Lib.hid HR2
          clear HR2 HR hbig
          go_wp2_with fail
          go_ret2
          exact ⟨⟨⟨#[]⟩, by rw [HR3.out]; rfl, by rw [HR3.out]; rfl⟩, Ht.out.2⟩
        · have d1 : decide ((u.size : Int) > 1024) = false := by simp; omega
          have HR2 := HR.out
          rw [if_neg (by rw [← HE.out.2]; exact hbig)] at HR2
          have HR3 := Lib.hid HR2
          clear HR2 HR hbig
          go_wp2_with fail
          go_ret2
          exact ⟨⟨u, by rw [HR3.out]; rfl, by rw [HR3.out]; exact HE.out.1⟩, Ht.out.2⟩
      · have e1 : nats ((⟨#[94]⟩ ++ t) ++ ⟨#[36]⟩ : ByteArray) = flagT true true x := by have := HF.out true true; simpa [nats_add, nats] using this
        have HE := Lib.hid (And.intro e1 (size_nats e1))
        clear e1
        go_upto_region 8 with fail
        obtain ⟨u, hu⟩ : ∃ u : ByteArray, u = (⟨#[94]⟩ ++ t) ++ ⟨#[36]⟩ := ⟨_, rfl⟩
        rw [← hu] at HE ⊢
        clear hu
        by_cases hbig : 1024 < u.size
        · have d1 : decide ((u.size : Int) > 1024) = true := by simp; omega
          have HR2 := HR.out
          rw [if_pos (by rw [← HE.out.2]; exact hbig)] at HR2
          have HR3 := Lib.hid HR2
          clear HR2 HR hbig
          go_wp2_with fail
          go_ret2
          exact ⟨⟨⟨#[]⟩, by rw [HR3.out]; rfl, by rw [HR3.out]; rfl⟩, Ht.out.2⟩
        · have d1 : decide ((u.size : Int) > 1024) = false := by simp; omega
          have HR2 := HR.out
          rw [if_neg (by rw [← HE.out.2]; exact hbig)] at HR2
          have HR3 := Lib.hid HR2
          clear HR2 HR hbig
          go_wp2_with fail
          go_ret2
          exact ⟨⟨u, by rw [HR3.out]; rfl, by rw [HR3.out]; exact HE.out.1⟩, Ht.out.2⟩
end Go.Proofs.YtjkhmmdjgancmaaDoor
/-! What the laws of layer 7 lean on: awake. -/
namespace Go.Proofs.YtjkhmmdjgancmaaDoor
set_option maxRecDepth 100000
open Go.RowKit
theorem of_nats {t u : ByteArray} (h : nats t = nats u) : t = u := by
  apply ByteArray.ext
  apply Array.toList_inj.1
  have hi : Function.Injective UInt8.toNat := fun a b h => UInt8.toNat_inj.1 h
  exact List.map_inj_right (fun a b h => hi h) |>.1 h
def cAC : BitVec 256 := setOf (upTo 97 99)
def cA1 : BitVec 256 := setOf [97]
theorem awake_texts : setT cAC = [91, 97, 45, 99, 93] ∧ setT cA1 = [97] := by decide +kernel
set_option maxHeartbeats 2000000 in
theorem awake7_any (w : World) (hT : TabAt 0 Lib.deBruijn64tab w) : Calls Tryd.prog 5 #[] w fun e w' => e = .returned (.bool true) ∧ Below w.heap.size w w' := by
  have hr := range_lit 97 99 97 99 rfl rfl (by decide) (by decide)
  rw [show setOf (upTo 97 99) = cAC from rfl] at hr
  have hof := fun (a : Option Addr) (cap : Nat) (w : World) h => of_any a 1 cap [97] w h
  rw [show setOf [97] = cA1 from rfl] at hof
  have h1 := fun w hT => set_walk cAC w hT
  have h2 := fun w hT => set_walk cA1 w hT
  rw [awake_texts.1] at h1
  rw [awake_texts.2] at h2
  have H1 := Lib.hid h1
  have H2 := Lib.hid h2
  have HT := Lib.hid hT
  clear h1 h2 hT
  generalize cAC = S at *
  generalize cA1 = A at *
  go_enter Tryd.func5, Tryd.ntmps5
  go_wp2_with fail
  refine (hr _).mono ?_
  rintro e w1 ⟨rfl, hb1⟩
  have HT1 := Lib.hid (tab_below HT.out hb1 (tab_pos HT.out))
  have Hb1 := Lib.hid hb1
  clear hb1
  go_wp2_with fail
  refine (H1.out _ HT1.out).mono ?_
  rintro e w2 ⟨⟨t, rfl, ht⟩, hb2⟩
  obtain rfl : t = ⟨#[91, 97, 45, 99, 93]⟩ := of_nats ht
  have Hb2 := Lib.hid (Hb1.out.trans (hb2.mono Hb1.out.size))
  clear hb2 ht
  go_wp2_with fail
  refine (hof _ _ _ (bytesAt_new [97] (by decide) (by decide) rfl rfl rfl (by decide))).mono ?_
  rintro e w3 ⟨rfl, hb3⟩
  have Hb3 := Lib.hid ((Hb2.out.alloc Hb2.out.size _).trans (hb3.mono (by have := Hb2.out.size; simp; omega)))
  have HT3 := Lib.hid (tab_below HT.out Hb3.out (tab_pos HT.out))
  clear hb3
  go_wp2_with fail
  refine (H2.out _ HT3.out).mono ?_
  rintro e w4 ⟨⟨t, rfl, ht⟩, hb4⟩
  obtain rfl : t = ⟨#[97]⟩ := of_nats ht
  have Hb4 := Lib.hid (Hb3.out.trans (hb4.mono Hb3.out.size))
  clear hb4 ht
  go_wp2_with fail
  go_ret
  exact ⟨rfl, Hb4.out⟩
theorem same_pow {w w' : World} (h : PowAt w) (hb : Below w.heap.size w w') : PowAt w' := pow_below h hb
end Go.Proofs.YtjkhmmdjgancmaaDoor
