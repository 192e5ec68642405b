/- Tokens, whole: their plain mathematics, token.Cut at every text, '==' on tokens. -/
import Derived.Test.YtlgpbgcheeaalaaGreatDoorSetBuild
import Derived.Test.YtlgpbgcheeaalaaGreatDoorClassNamed
import Derived.Test.YtlgpbgcheeaalaaGreatDoorShelf
import Derived.Test.YtlgpbgcheeaalaaGreatDoorText
import Derived.Test.YtlgpbgcheeaalaaGreatDoorBlockMem
import Derived.Test.YtlgpbgcheeaalaaGreatDoorEq
import Derived.Laws.StructEq
/-! The plain mathematics of tokens: what the text at hand begins with; a whole text cut; texts one behind the other. cls: the classes by name. -/
namespace Go.Proofs.YtlgpbgcheeaalaaGreatDoor
set_option maxRecDepth 100000
open Go.RowKit

/-- what an item of a bracket, or a whole bracket, comes to: an error, or a set and the text behind it -/
inductive BR where
  | bad (e : Nat)
  | ok (s : BitVec 256) (rest : List Nat)
/-- a class's name, up to ':]' -/
def classEnd : List Nat → Option (List Nat × List Nat)
  | [] => none
  | [_] => none
  | x :: y :: r => if x = 58 ∧ y = 93 then some ([], r) else (classEnd (y :: r)).map fun p => (x :: p.1, p.2)
def oneByte (x : Nat) : BitVec 256 := setOf [x]
/-- a byte, or a range: r is the text behind the byte x -/
def rangeOf (x : Nat) (r : List Nat) : BR :=
  match r with
  | 45 :: y :: r2 =>
    if y = 93 then .ok (oneByte x) r
    else if y = 91 ∧ (r2.head? = some 46 ∨ r2.head? = some 61) then .bad 3
    else if y = 91 ∧ r2.head? = some 58 ∨ y < x then .bad 2
    else .ok (setOf (upTo x y)) r2
  | [45] => .bad 2
  | _ => .ok (oneByte x) r
/-- a class: r is the text behind '[:' -/
def classItem (cls : List Nat → Option (BitVec 256)) (r : List Nat) : BR :=
  match classEnd r with
  | none => .bad 2
  | some (n, rest) =>
    match cls n with
    | none => .bad 2
    | some s => .ok s rest
/-- an item that begins with x; r is the text behind x -/
def item (cls : List Nat → Option (BitVec 256)) (first : Bool) (x : Nat) (r : List Nat) : BR :=
  if x = 91 ∧ (r.head? = some 46 ∨ r.head? = some 61) then .bad 3
  else if x = 91 ∧ r.head? = some 58 then classItem cls r.tail
  else if x = 45 ∧ first = false ∧ r.head? ≠ some 93 then .bad 2
  else rangeOf x r
def items (cls : List Nat → Option (BitVec 256)) : Nat → Bool → BitVec 256 → List Nat → BR
  | 0, _, _, _ => .bad 2
  | _ + 1, _, _, [] => .bad 2
  | f + 1, first, s, x :: r =>
    if x = 93 ∧ first = false then .ok s r
    else match item cls first x r with
      | .bad e => .bad e
      | .ok t rest => items cls f false (s ||| t) rest
/-- a bracket; q is the text behind '[' -/
def bracket (cls : List Nat → Option (BitVec 256)) (q : List Nat) : BR :=
  match (if q.head? = some 94 then items cls (q.length + 1) true 0 q.tail else items cls (q.length + 1) true 0 q) with
  | .bad e => .bad e
  | .ok s rest =>
    let t := if q.head? = some 94 then ~~~s else s
    if t = 0 then .bad 2 else .ok t rest
/-- a token, but for where it lies -/
structure Tok where
  kind : Nat
  set : BitVec 256
  lo : Int
  hi : Int
inductive TR where
  | bad (e : Nat)
  | ok (t : Tok) (rest : List Nat)
def isDig (c : Nat) : Bool := decide (48 ≤ c) && decide (c ≤ 57)
def numOf (d : List Nat) : Nat := d.foldl (fun n c => 10 * n + (c - 48)) 0
/-- what '{' begins; q is the text behind it -/
def often (q : List Nat) : TR :=
  let d := q.takeWhile isDig
  if d = [] then .bad 2
  else if 255 < numOf d then .bad 4
  else match q.dropWhile isDig with
    | 125 :: r => .ok ⟨6, 0, numOf d, numOf d⟩ r
    | 44 :: 125 :: r => .ok ⟨6, 0, numOf d, -1⟩ r
    | 44 :: r =>
      let d2 := r.takeWhile isDig
      if d2 = [] then .bad 2
      else if 255 < numOf d2 then .bad 4
      else match r.dropWhile isDig with
        | 125 :: r2 => if numOf d2 < numOf d then .bad 2 else .ok ⟨6, 0, numOf d, numOf d2⟩ r2
        | _ => .bad 2
    | _ => .bad 2
def specials : List Nat := [46, 91, 93, 92, 40, 41, 42, 43, 63, 123, 125, 124, 94, 36, 45]
/-- what a backslash begins -/
def escape (q : List Nat) : TR :=
  match q with
  | [] => .bad 2
  | c :: r => if c ∈ specials then .ok ⟨1, oneByte c, 0, 0⟩ r else if 49 ≤ c ∧ c ≤ 57 then .bad 3 else .bad 2
def ofBR : BR → TR
  | .bad e => .bad e
  | .ok s rest => .ok ⟨1, s, 0, 0⟩ rest
/-- the token that x begins; r is the text behind x -/
def tokOf (cls : List Nat → Option (BitVec 256)) (x : Nat) (r : List Nat) : TR :=
  if x = 42 then .ok ⟨6, 0, 0, -1⟩ r
  else if x = 43 then .ok ⟨6, 0, 1, -1⟩ r
  else if x = 63 then .ok ⟨6, 0, 0, 1⟩ r
  else if x = 123 then often r
  else if x = 40 then (match r with
    | 63 :: 58 :: r2 => .ok ⟨3, 0, 0, 0⟩ r2
    | _ => .ok ⟨2, 0, 0, 0⟩ r)
  else if x = 41 then .ok ⟨4, 0, 0, 0⟩ r
  else if x = 124 then .ok ⟨5, 0, 0, 0⟩ r
  else if x = 94 then .ok ⟨7, 0, 0, 0⟩ r
  else if x = 36 then .ok ⟨8, 0, 0, 0⟩ r
  else if x = 46 then .ok ⟨1, BitVec.allOnes 256, 0, 0⟩ r
  else if x = 92 then escape r
  else if x = 91 then ofBR (bracket cls r)
  else .ok ⟨1, oneByte x, 0, 0⟩ r
/-- a text cut: the tokens with their places and no error, or the first error and its token's place -/
def cutFrom (cls : List Nat → Option (BitVec 256)) : Nat → Nat → List Nat → Option (Nat × Nat) × List (Tok × Nat)
  | 0, _, _ => (none, [])
  | _ + 1, _, [] => (none, [])
  | f + 1, at_, x :: r =>
    match tokOf cls x r with
    | .bad e => (some (at_, e), [])
    | .ok t rest =>
      let p := cutFrom cls f (at_ + ((r.length + 1) - rest.length)) rest
      (p.1, (t, at_) :: p.2)
def cutAll (cls : List Nat → Option (BitVec 256)) (q : List Nat) : Option (Nat × Nat) × List (Tok × Nat) := cutFrom cls (q.length + 1) 0 q

/-! what is left is an end of the text -/
theorem classEnd_suf : ∀ (q n rest : List Nat), classEnd q = some (n, rest) → rest <:+ q
  | [], _, _, h => by simp [classEnd] at h
  | [_], _, _, h => by simp [classEnd] at h
  | x :: y :: r, n, rest, h => by
    unfold classEnd at h
    split at h
    · simp at h; obtain ⟨_, rfl⟩ := h
      exact (List.suffix_cons _ _).trans (List.suffix_cons _ _)
    · simp only [Option.map_eq_some_iff] at h
      obtain ⟨p, hp, he⟩ := h
      have := classEnd_suf (y :: r) p.1 p.2 hp
      simp at he
      rw [he.2] at this
      exact this.trans (List.suffix_cons _ _)
theorem rangeOf_suf (x : Nat) (r : List Nat) (s : BitVec 256) (rest : List Nat) (h : rangeOf x r = .ok s rest) : rest <:+ r := by
  unfold rangeOf at h
  split at h
  · rename_i y r2
    split at h
    · cases h; exact List.suffix_refl _
    · split at h
      · cases h
      · split at h
        · cases h
        · cases h; exact (List.suffix_cons _ _).trans (List.suffix_cons _ _)
  · cases h
  · cases h; exact List.suffix_refl _
theorem classItem_suf (cls : List Nat → Option (BitVec 256)) (r : List Nat) (s : BitVec 256) (rest : List Nat) (h : classItem cls r = .ok s rest) : rest <:+ r := by
  unfold classItem at h
  split at h
  · cases h
  · rename_i n rest' he
    have hs := classEnd_suf _ _ _ he
    split at h
    · cases h
    · cases h; exact hs
theorem tail_suf (r : List Nat) : r.tail <:+ r := by
  cases r with
  | nil => exact List.suffix_refl _
  | cons x r => exact List.suffix_cons _ _
theorem item_suf (cls : List Nat → Option (BitVec 256)) (first : Bool) (x : Nat) (r : List Nat) (s : BitVec 256) (rest : List Nat) (h : item cls first x r = .ok s rest) : rest <:+ r := by
  unfold item at h
  split at h
  · cases h
  · split at h
    · exact (classItem_suf cls _ _ _ h).trans (tail_suf r)
    · split at h
      · cases h
      · exact rangeOf_suf _ _ _ _ h
theorem items_suf (cls : List Nat → Option (BitVec 256)) : ∀ (f : Nat) (first : Bool) (s : BitVec 256) (q : List Nat) (t : BitVec 256) (rest : List Nat), items cls f first s q = .ok t rest → rest <:+ q
  | 0, _, _, _, _, _, h => by simp [items] at h
  | f + 1, _, _, [], _, _, h => by simp [items] at h
  | f + 1, first, s, x :: r, t, rest, h => by
    unfold items at h
    split at h
    · cases h; exact List.suffix_cons _ _
    · split at h
      · cases h
      · rename_i u rest' he
        have h1 := item_suf cls first x r u rest' he
        have h2 := items_suf cls f false _ rest' t rest h
        exact (h2.trans h1).trans (List.suffix_cons _ _)
/-- a bracket that is one: its items, and that it holds a byte -/
theorem bracket_ok {cls : List Nat → Option (BitVec 256)} {q : List Nat} {t : BitVec 256} {rest : List Nat} (h : bracket cls q = .ok t rest) :
    ∃ s, (if q.head? = some 94 then items cls (q.length + 1) true 0 q.tail else items cls (q.length + 1) true 0 q) = .ok s rest ∧ t = (if q.head? = some 94 then ~~~s else s) ∧ t ≠ 0 := by
  unfold bracket at h
  split at h
  · cases h
  · rename_i s rest' he
    simp only at h
    by_cases h0 : (if q.head? = some 94 then ~~~s else s) = 0
    · rw [if_pos h0] at h; cases h
    · rw [if_neg h0] at h
      injection h with h1 h2
      exact ⟨s, by rw [he, h2], h1.symm, by rw [← h1]; exact h0⟩
theorem bracket_suf (cls : List Nat → Option (BitVec 256)) (q : List Nat) (t : BitVec 256) (rest : List Nat) (h : bracket cls q = .ok t rest) : rest <:+ q := by
  obtain ⟨s, he, _⟩ := bracket_ok h
  split at he
  · exact (items_suf cls _ _ _ _ _ _ he).trans (tail_suf q)
  · exact items_suf cls _ _ _ _ _ _ he
theorem often_suf (q : List Nat) (t : Tok) (rest : List Nat) (h : often q = .ok t rest) : rest <:+ q := by
  have hd := List.dropWhile_suffix isDig (l := q)
  unfold often at h
  simp only at h
  split at h
  · cases h
  · split at h
    · cases h
    · split at h
      · rename_i r he; cases h; rw [he] at hd; exact (List.suffix_cons _ _).trans hd
      · rename_i r he; cases h; rw [he] at hd; exact ((List.suffix_cons _ _).trans (List.suffix_cons _ _)).trans hd
      · rename_i r _ he
        have hd2 := List.dropWhile_suffix isDig (l := r)
        split at h
        · cases h
        · split at h
          · cases h
          · split at h
            · rename_i r2 he2
              split at h
              · cases h
              · cases h
                rw [he] at hd
                rw [he2] at hd2
                exact (((List.suffix_cons _ _).trans hd2).trans (List.suffix_cons _ _)).trans hd
            · cases h
      · cases h
theorem escape_suf (q : List Nat) (t : Tok) (rest : List Nat) (h : escape q = .ok t rest) : rest <:+ q := by
  unfold escape at h
  split at h
  · cases h
  · split at h
    · cases h; exact List.suffix_cons _ _
    · split at h <;> cases h
theorem ofBR_ok {b : BR} {t : Tok} {rest : List Nat} (h : ofBR b = .ok t rest) : ∃ s, b = .ok s rest ∧ t = ⟨1, s, 0, 0⟩ := by
  cases b with
  | bad e => cases h
  | ok s r => injection h with h1 h2; exact ⟨s, by rw [h2], h1.symm⟩
theorem open_suf (r : List Nat) (t : Tok) (rest : List Nat) (h : (match r with | 63 :: 58 :: r2 => TR.ok ⟨3, 0, 0, 0⟩ r2 | _ => TR.ok ⟨2, 0, 0, 0⟩ r) = .ok t rest) : rest <:+ r := by
  split at h
  · cases h; exact (List.suffix_cons _ _).trans (List.suffix_cons _ _)
  · cases h; exact List.suffix_refl _
theorem tokOf_suf (cls : List Nat → Option (BitVec 256)) (x : Nat) (r : List Nat) (t : Tok) (rest : List Nat) (h : tokOf cls x r = .ok t rest) : rest <:+ r := by
  unfold tokOf at h
  by_cases h42 : x = 42
  · rw [if_pos h42] at h; cases h; exact List.suffix_refl _
  rw [if_neg h42] at h
  by_cases h43 : x = 43
  · rw [if_pos h43] at h; cases h; exact List.suffix_refl _
  rw [if_neg h43] at h
  by_cases h63 : x = 63
  · rw [if_pos h63] at h; cases h; exact List.suffix_refl _
  rw [if_neg h63] at h
  by_cases h123 : x = 123
  · rw [if_pos h123] at h; exact often_suf _ _ _ h
  rw [if_neg h123] at h
  by_cases h40 : x = 40
  · rw [if_pos h40] at h; exact open_suf _ _ _ h
  rw [if_neg h40] at h
  by_cases h41 : x = 41
  · rw [if_pos h41] at h; cases h; exact List.suffix_refl _
  rw [if_neg h41] at h
  by_cases h124 : x = 124
  · rw [if_pos h124] at h; cases h; exact List.suffix_refl _
  rw [if_neg h124] at h
  by_cases h94 : x = 94
  · rw [if_pos h94] at h; cases h; exact List.suffix_refl _
  rw [if_neg h94] at h
  by_cases h36 : x = 36
  · rw [if_pos h36] at h; cases h; exact List.suffix_refl _
  rw [if_neg h36] at h
  by_cases h46 : x = 46
  · rw [if_pos h46] at h; cases h; exact List.suffix_refl _
  rw [if_neg h46] at h
  by_cases h92 : x = 92
  · rw [if_pos h92] at h; exact escape_suf _ _ _ h
  rw [if_neg h92] at h
  by_cases h91 : x = 91
  · rw [if_pos h91] at h; obtain ⟨s, hs, _⟩ := ofBR_ok h; exact bracket_suf cls _ _ _ hs
  rw [if_neg h91] at h
  cases h; exact List.suffix_refl _
/-! what comes behind a token that is whole doesn't turn it -/
theorem head_append {r : List Nat} (b : List Nat) (h : r ≠ []) : (r ++ b).head? = r.head? := by
  cases r with
  | nil => exact absurd rfl h
  | cons x r => rfl
theorem tail_append {r : List Nat} (b : List Nat) (h : r ≠ []) : (r ++ b).tail = r.tail ++ b := by
  cases r with
  | nil => exact absurd rfl h
  | cons x r => rfl
theorem classEnd_append (b : List Nat) : ∀ (q n rest : List Nat), classEnd q = some (n, rest) → classEnd (q ++ b) = some (n, rest ++ b)
  | [], _, _, h => by simp [classEnd] at h
  | [_], _, _, h => by simp [classEnd] at h
  | x :: y :: r, n, rest, h => by
    unfold classEnd at h
    show classEnd (x :: y :: (r ++ b)) = _
    unfold classEnd
    by_cases hc : x = 58 ∧ y = 93
    · rw [if_pos hc] at h ⊢
      simp at h; obtain ⟨rfl, rfl⟩ := h; rfl
    · rw [if_neg hc] at h ⊢
      simp only [Option.map_eq_some_iff] at h
      obtain ⟨p, hp, he⟩ := h
      have := classEnd_append b (y :: r) p.1 p.2 hp
      rw [List.cons_append] at this
      simp at he
      rw [this, Option.map_some, he.1, he.2]
theorem rangeOf_other (x c : Nat) (t : List Nat) (hc : c ≠ 45) : rangeOf x (c :: t) = .ok (oneByte x) (c :: t) := by
  unfold rangeOf
  split
  · rename_i he; injection he with e1 _; exact absurd e1 hc
  · rename_i he; injection he with e1 _; exact absurd e1 hc
  · rfl
theorem rangeOf_append (b : List Nat) (x : Nat) (r : List Nat) (s : BitVec 256) (rest : List Nat) (h : rangeOf x r = .ok s rest) (h1 : rest ≠ []) : rangeOf x (r ++ b) = .ok s (rest ++ b) := by
  match r, h with
  | [], h => simp [rangeOf] at h; exact absurd h.2.symm (by simpa using h1)
  | [c], h =>
    have hc : c ≠ 45 := by rintro rfl; simp [rangeOf] at h
    rw [rangeOf_other x c [] hc] at h
    injection h with e1 e2
    subst e1 e2
    exact rangeOf_other x c b hc
  | c :: y :: r2, h =>
    show rangeOf x (c :: y :: (r2 ++ b)) = _
    by_cases hc : c = 45
    · subst hc
      simp only [rangeOf] at h ⊢
      by_cases hy : y = 93
      · rw [if_pos hy] at h ⊢; injection h with e1 e2; subst e1 e2; rfl
      · rw [if_neg hy] at h ⊢
        have hr2 : r2 ≠ [] := by
          rintro rfl
          split at h
          · cases h
          · split at h
            · cases h
            · injection h with e1 e2; exact h1 e2.symm
        rw [head_append b hr2]
        split at h
        · cases h
        · rename_i hh; rw [if_neg hh]
          split at h
          · cases h
          · rename_i hh2; rw [if_neg hh2]; injection h with e1 e2; subst e1 e2; rfl
    · rw [rangeOf_other x c _ hc] at h ⊢
      injection h with e1 e2; subst e1 e2; rfl
theorem classItem_append (b : List Nat) (cls : List Nat → Option (BitVec 256)) (r : List Nat) (s : BitVec 256) (rest : List Nat) (h : classItem cls r = .ok s rest) : classItem cls (r ++ b) = .ok s (rest ++ b) := by
  unfold classItem at h ⊢
  cases he : classEnd r with
  | none => rw [he] at h; cases h
  | some p =>
    obtain ⟨n, rest'⟩ := p
    rw [he] at h
    rw [classEnd_append b r n rest' he]
    simp only at h ⊢
    cases hc : cls n with
    | none => rw [hc] at h; cases h
    | some u =>
      rw [hc] at h
      simp only at h ⊢
      injection h with e1 e2; subst e1 e2; rfl
theorem item_append (b : List Nat) (cls : List Nat → Option (BitVec 256)) (first : Bool) (x : Nat) (r : List Nat) (s : BitVec 256) (rest : List Nat) (h : item cls first x r = .ok s rest) (h1 : rest ≠ []) :
    item cls first x (r ++ b) = .ok s (rest ++ b) := by
  have hr : r ≠ [] := by
    rintro rfl
    have := item_suf cls first x [] s rest h
    exact h1 (List.suffix_nil.1 this)
  unfold item at h ⊢
  rw [head_append b hr, tail_append b hr]
  split at h
  · cases h
  · rename_i ha; rw [if_neg ha]
    split at h
    · rename_i hb; rw [if_pos hb]; exact classItem_append b cls _ s rest h
    · rename_i hb; rw [if_neg hb]
      split at h
      · cases h
      · rename_i hc; rw [if_neg hc]; exact rangeOf_append b x r s rest h h1
theorem items_nil (cls : List Nat → Option (BitVec 256)) (f : Nat) (first : Bool) (s : BitVec 256) : items cls f first s [] = .bad 2 := by cases f <;> rfl
theorem items_dash (cls : List Nat → Option (BitVec 256)) (f : Nat) (s : BitVec 256) : items cls f false s [45] = .bad 2 := by
  cases f with
  | zero => rfl
  | succ f => simp [items, item]
theorem items_append (b : List Nat) (cls : List Nat → Option (BitVec 256)) : ∀ (f : Nat) (first : Bool) (s : BitVec 256) (q : List Nat) (t : BitVec 256) (rest : List Nat), items cls f first s q = .ok t rest → items cls f first s (q ++ b) = .ok t (rest ++ b)
  | 0, _, _, _, _, _, h => by simp [items] at h
  | f + 1, _, _, [], _, _, h => by simp [items] at h
  | f + 1, first, s, x :: r, t, rest, h => by
    rw [List.cons_append]
    unfold items at h ⊢
    by_cases hc : x = 93 ∧ first = false
    · rw [if_pos hc] at h ⊢; injection h with e1 e2; subst e1 e2; rfl
    · rw [if_neg hc] at h ⊢
      cases he : item cls first x r with
      | bad e => rw [he] at h; cases h
      | ok u rest' =>
        rw [he] at h
        simp only at h
        have h1 : rest' ≠ [] := by rintro rfl; rw [items_nil] at h; cases h
        rw [item_append b cls first x r u rest' he h1]
        exact items_append b cls f false _ rest' t rest h
theorem items_more (cls : List Nat → Option (BitVec 256)) : ∀ (f g : Nat) (first : Bool) (s : BitVec 256) (q : List Nat) (t : BitVec 256) (rest : List Nat), f ≤ g → items cls f first s q = .ok t rest → items cls g first s q = .ok t rest
  | 0, _, _, _, _, _, _, _, h => by simp [items] at h
  | f + 1, 0, _, _, _, _, _, hg, _ => by omega
  | f + 1, g + 1, _, _, [], _, _, _, h => by simp [items] at h
  | f + 1, g + 1, first, s, x :: r, t, rest, hg, h => by
    unfold items at h ⊢
    by_cases hc : x = 93 ∧ first = false
    · rw [if_pos hc] at h ⊢; exact h
    · rw [if_neg hc] at h ⊢
      cases he : item cls first x r with
      | bad e => rw [he] at h; cases h
      | ok u rest' =>
        rw [he] at h
        exact items_more cls f g false _ rest' t rest (by omega) h
theorem bracket_append (b : List Nat) (cls : List Nat → Option (BitVec 256)) (q : List Nat) (t : BitVec 256) (rest : List Nat) (h : bracket cls q = .ok t rest) : bracket cls (q ++ b) = .ok t (rest ++ b) := by
  obtain ⟨s, he, ht, h0⟩ := bracket_ok h
  have hq : q ≠ [] := by
    rintro rfl
    simp [items] at he
  have he' : (if (q ++ b).head? = some 94 then items cls ((q ++ b).length + 1) true 0 (q ++ b).tail else items cls ((q ++ b).length + 1) true 0 (q ++ b)) = .ok s (rest ++ b) := by
    rw [head_append b hq, tail_append b hq]
    split at he
    · rename_i hh; rw [if_pos hh]
      exact items_append b cls _ _ _ _ _ _ (items_more cls _ _ _ _ _ _ _ (by simp) he)
    · rename_i hh; rw [if_neg hh]
      exact items_append b cls _ _ _ _ _ _ (items_more cls _ _ _ _ _ _ _ (by simp) he)
  unfold bracket
  rw [he', head_append b hq]
  simp only
  rw [← ht, if_neg h0]
theorem dig_append (b : List Nat) : ∀ (q : List Nat), q.dropWhile isDig ≠ [] → (q ++ b).takeWhile isDig = q.takeWhile isDig ∧ (q ++ b).dropWhile isDig = q.dropWhile isDig ++ b
  | [], h => by simp at h
  | x :: q, h => by
    rw [List.cons_append]
    by_cases hx : isDig x = true
    · rw [List.dropWhile_cons_of_pos hx] at h
      obtain ⟨h1, h2⟩ := dig_append b q h
      rw [List.takeWhile_cons_of_pos hx, List.takeWhile_cons_of_pos hx, List.dropWhile_cons_of_pos hx, List.dropWhile_cons_of_pos hx, h1, h2]
      exact ⟨rfl, rfl⟩
    · rw [List.takeWhile_cons_of_neg hx, List.takeWhile_cons_of_neg hx, List.dropWhile_cons_of_neg hx, List.dropWhile_cons_of_neg hx]
      exact ⟨rfl, rfl⟩
theorem count_ok (m : Nat) (q : List Nat) (t : Tok) (rest : List Nat) (h : (match q with
    | 125 :: r => TR.ok ⟨6, 0, m, m⟩ r
    | 44 :: 125 :: r => TR.ok ⟨6, 0, m, -1⟩ r
    | 44 :: r =>
      let d2 := r.takeWhile isDig
      if d2 = [] then TR.bad 2
      else if 255 < numOf d2 then TR.bad 4
      else match r.dropWhile isDig with
        | 125 :: r2 => if numOf d2 < m then TR.bad 2 else TR.ok ⟨6, 0, m, numOf d2⟩ r2
        | _ => TR.bad 2
    | _ => TR.bad 2) = .ok t rest) (b : List Nat) : q ≠ [] ∧ (match q ++ b with
    | 125 :: r => TR.ok ⟨6, 0, m, m⟩ r
    | 44 :: 125 :: r => TR.ok ⟨6, 0, m, -1⟩ r
    | 44 :: r =>
      let d2 := r.takeWhile isDig
      if d2 = [] then TR.bad 2
      else if 255 < numOf d2 then TR.bad 4
      else match r.dropWhile isDig with
        | 125 :: r2 => if numOf d2 < m then TR.bad 2 else TR.ok ⟨6, 0, m, numOf d2⟩ r2
        | _ => TR.bad 2
    | _ => TR.bad 2) = .ok t (rest ++ b) := by
  split at h
  · cases h; exact ⟨by simp, rfl⟩
  · cases h; exact ⟨by simp, rfl⟩
  · rename_i r hne
    refine ⟨by simp, ?_⟩
    simp only at h
    by_cases hd : r.takeWhile isDig = []
    · rw [if_pos hd] at h; cases h
    rw [if_neg hd] at h
    by_cases h255 : 255 < numOf (r.takeWhile isDig)
    · rw [if_pos h255] at h; cases h
    rw [if_neg h255] at h
    have hdrop : r.dropWhile isDig ≠ [] := by
      intro e; rw [e] at h; simp at h
    obtain ⟨e1, e2⟩ := dig_append b r hdrop
    cases r with
    | nil => simp at hd
    | cons c r' =>
      have hc : c ≠ 125 := fun e => hne r' (by rw [e])
      show (match 44 :: c :: (r' ++ b) with
        | 125 :: r => TR.ok ⟨6, 0, m, m⟩ r
        | 44 :: 125 :: r => TR.ok ⟨6, 0, m, -1⟩ r
        | 44 :: r =>
          let d2 := r.takeWhile isDig
          if d2 = [] then TR.bad 2
          else if 255 < numOf d2 then TR.bad 4
          else match r.dropWhile isDig with
            | 125 :: r2 => if numOf d2 < m then TR.bad 2 else TR.ok ⟨6, 0, m, numOf d2⟩ r2
            | _ => TR.bad 2
        | _ => TR.bad 2) = _
      split
      · rename_i he; injection he with he1 _; omega
      · rename_i he; injection he with _ he2; injection he2 with he3 _; exact absurd he3 hc
      · rename_i r3 _ he
        injection he with _ he2
        subst he2
        simp only
        rw [← List.cons_append, e1, e2, if_neg hd, if_neg h255]
        cases hq : (c :: r').dropWhile isDig with
        | nil => exact absurd hq hdrop
        | cons y r4 =>
          rw [hq] at h
          rw [List.cons_append]
          by_cases hy : y = 125
          · subst hy
            simp only at h ⊢
            split at h
            · cases h
            · rename_i hh; rw [if_neg hh]; cases h; rfl
          · split at h
            · rename_i he; injection he with he1 _; exact absurd he1 hy
            · cases h
      · rename_i _ _ h3; exact absurd rfl (h3 _)
  · cases h
theorem often_append (b : List Nat) (q : List Nat) (t : Tok) (rest : List Nat) (h : often q = .ok t rest) : often (q ++ b) = .ok t (rest ++ b) := by
  unfold often at h ⊢
  simp only at h ⊢
  by_cases hd : q.takeWhile isDig = []
  · rw [if_pos hd] at h; cases h
  rw [if_neg hd] at h
  by_cases h255 : 255 < numOf (q.takeWhile isDig)
  · rw [if_pos h255] at h; cases h
  rw [if_neg h255] at h
  obtain ⟨h1, h2⟩ := count_ok (numOf (q.takeWhile isDig)) _ t rest h b
  obtain ⟨e1, e2⟩ := dig_append b q h1
  rw [e1, if_neg hd, if_neg h255, e2]
  exact h2
theorem escape_append (b : List Nat) (q : List Nat) (t : Tok) (rest : List Nat) (h : escape q = .ok t rest) : escape (q ++ b) = .ok t (rest ++ b) := by
  cases q with
  | nil => simp [escape] at h
  | cons c r =>
    rw [List.cons_append]
    unfold escape at h ⊢
    simp only at h ⊢
    split at h
    · rename_i hc; rw [if_pos hc]; cases h; rfl
    · split at h <;> cases h
theorem open_append (b : List Nat) (r : List Nat) (t : Tok) (rest : List Nat) (h : (match r with | 63 :: 58 :: r2 => TR.ok ⟨3, 0, 0, 0⟩ r2 | _ => TR.ok ⟨2, 0, 0, 0⟩ r) = .ok t rest) (h1 : r ≠ []) (h2 : r ≠ [63]) :
    (match r ++ b with | 63 :: 58 :: r2 => TR.ok ⟨3, 0, 0, 0⟩ r2 | _ => TR.ok ⟨2, 0, 0, 0⟩ (r ++ b)) = .ok t (rest ++ b) := by
  match r, h with
  | [], _ => exact absurd rfl h1
  | [c], h =>
    have hc : c ≠ 63 := fun e => h2 (by rw [e])
    split at h
    · rename_i he; simp at he
    · cases h
      show (match c :: b with | 63 :: 58 :: r2 => TR.ok ⟨3, 0, 0, 0⟩ r2 | _ => TR.ok ⟨2, 0, 0, 0⟩ (c :: b)) = _
      split
      · rename_i he; injection he with e1 _; exact absurd e1 hc
      · rfl
  | c :: y :: r2, h =>
    show (match c :: y :: (r2 ++ b) with | 63 :: 58 :: r2 => TR.ok ⟨3, 0, 0, 0⟩ r2 | _ => TR.ok ⟨2, 0, 0, 0⟩ (c :: y :: (r2 ++ b))) = _
    split at h
    · rename_i r3 he
      injection he with e1 he2
      injection he2 with e2 e3
      subst e1 e2 e3
      cases h; rfl
    · rename_i hne
      cases h
      split
      · rename_i r3 he
        injection he with e1 he2
        injection he2 with e2 e3
        exact absurd (by rw [e1, e2]) (hne r2)
      · rfl
theorem tokOf_append (b : List Nat) (cls : List Nat → Option (BitVec 256)) (x : Nat) (r : List Nat) (t : Tok) (rest : List Nat) (h : tokOf cls x r = .ok t rest) (hp : x = 40 → r ≠ [] ∧ r ≠ [63]) : tokOf cls x (r ++ b) = .ok t (rest ++ b) := by
  unfold tokOf at h ⊢
  by_cases h42 : x = 42
  · rw [if_pos h42] at h ⊢; cases h; rfl
  rw [if_neg h42] at h ⊢
  by_cases h43 : x = 43
  · rw [if_pos h43] at h ⊢; cases h; rfl
  rw [if_neg h43] at h ⊢
  by_cases h63 : x = 63
  · rw [if_pos h63] at h ⊢; cases h; rfl
  rw [if_neg h63] at h ⊢
  by_cases h123 : x = 123
  · rw [if_pos h123] at h ⊢; exact often_append b _ _ _ h
  rw [if_neg h123] at h ⊢
  by_cases h40 : x = 40
  · rw [if_pos h40] at h ⊢; exact open_append b _ _ _ h (hp h40).1 (hp h40).2
  rw [if_neg h40] at h ⊢
  by_cases h41 : x = 41
  · rw [if_pos h41] at h ⊢; cases h; rfl
  rw [if_neg h41] at h ⊢
  by_cases h124 : x = 124
  · rw [if_pos h124] at h ⊢; cases h; rfl
  rw [if_neg h124] at h ⊢
  by_cases h94 : x = 94
  · rw [if_pos h94] at h ⊢; cases h; rfl
  rw [if_neg h94] at h ⊢
  by_cases h36 : x = 36
  · rw [if_pos h36] at h ⊢; cases h; rfl
  rw [if_neg h36] at h ⊢
  by_cases h46 : x = 46
  · rw [if_pos h46] at h ⊢; cases h; rfl
  rw [if_neg h46] at h ⊢
  by_cases h92 : x = 92
  · rw [if_pos h92] at h ⊢; exact escape_append b _ _ _ h
  rw [if_neg h92] at h ⊢
  by_cases h91 : x = 91
  · rw [if_pos h91] at h ⊢; obtain ⟨s, hs, ht⟩ := ofBR_ok h; rw [bracket_append b cls _ _ _ hs, ht]; rfl
  rw [if_neg h91] at h ⊢
  cases h; rfl
/-! a whole text: its fuel, its place, one text behind the other -/
theorem cut_fuel (cls : List Nat → Option (BitVec 256)) : ∀ (f g at_ : Nat) (q : List Nat), q.length < f → q.length < g → cutFrom cls f at_ q = cutFrom cls g at_ q
  | 0, _, _, _, h, _ => by omega
  | _ + 1, 0, _, _, _, h => by omega
  | f + 1, g + 1, at_, [], _, _ => rfl
  | f + 1, g + 1, at_, x :: r, h, h' => by
    unfold cutFrom
    cases ht : tokOf cls x r with
    | bad e => rfl
    | ok t rest =>
      have hs := (tokOf_suf cls x r t rest ht).length_le
      simp only [List.length_cons] at h h'
      simp only
      rw [cut_fuel cls f g _ rest (by omega) (by omega)]
def moveErr (d : Nat) (e : Option (Nat × Nat)) : Option (Nat × Nat) := e.map fun p => (p.1 + d, p.2)
def moveToks (d : Nat) (l : List (Tok × Nat)) : List (Tok × Nat) := l.map fun p => (p.1, p.2 + d)
theorem cut_shift (cls : List Nat → Option (BitVec 256)) (d : Nat) : ∀ (f at_ : Nat) (q : List Nat), cutFrom cls f (at_ + d) q = (moveErr d (cutFrom cls f at_ q).1, moveToks d (cutFrom cls f at_ q).2)
  | 0, _, _ => rfl
  | f + 1, at_, [] => rfl
  | f + 1, at_, x :: r => by
    unfold cutFrom
    cases ht : tokOf cls x r with
    | bad e => rfl
    | ok t rest =>
      simp only
      rw [show at_ + d + (r.length + 1 - rest.length) = at_ + (r.length + 1 - rest.length) + d from by omega, cut_shift cls d f _ rest]
      rfl
/-- a text that a token that begins another way could not go on from -/
def wholeEnd (q : List Nat) : Prop := ¬ [40] <:+ q ∧ ¬ [40, 63] <:+ q
theorem cut_step {cls : List Nat → Option (BitVec 256)} {x : Nat} {r : List Nat} {t : Tok} {rest : List Nat} (h : tokOf cls x r = .ok t rest) (f at_ : Nat) :
    cutFrom cls (f + 1) at_ (x :: r) = ((cutFrom cls f (at_ + (r.length + 1 - rest.length)) rest).1, (t, at_) :: (cutFrom cls f (at_ + (r.length + 1 - rest.length)) rest).2) := by
  rw [cutFrom, h]
theorem cut_stop {cls : List Nat → Option (BitVec 256)} {x : Nat} {r : List Nat} {e : Nat} (h : tokOf cls x r = .bad e) (f at_ : Nat) : cutFrom cls (f + 1) at_ (x :: r) = (some (at_, e), []) := by
  rw [cutFrom, h]
theorem cut_append (b : List Nat) (cls : List Nat → Option (BitVec 256)) : ∀ (f at_ : Nat) (q : List Nat) (F G : Nat), q.length < f → (q ++ b).length < F → b.length < G → (cutFrom cls f at_ q).1 = none → wholeEnd q →
    cutFrom cls F at_ (q ++ b) = ((cutFrom cls G (at_ + q.length) b).1, (cutFrom cls f at_ q).2 ++ (cutFrom cls G (at_ + q.length) b).2)
  | 0, _, _, _, _, h, _, _, _, _ => by omega
  | f + 1, at_, [], F, G, _, hF, hG, _, _ => by
    rw [List.nil_append, cut_fuel cls F G at_ b (by simpa using hF) hG]
    rfl
  | f + 1, at_, x :: r, 0, G, _, hF, _, _, _ => by simp at hF
  | f + 1, at_, x :: r, F + 1, G, hf, hF, hG, hn, hw => by
    rw [List.cons_append]
    cases ht : tokOf cls x r with
    | bad e => rw [cut_stop ht] at hn; cases hn
    | ok t rest =>
      rw [cut_step ht] at hn ⊢
      have hsuf := tokOf_suf cls x r t rest ht
      have hle := hsuf.length_le
      simp only [List.length_cons, List.cons_append, List.length_append] at hf hF
      have hw' : wholeEnd rest := ⟨fun h => hw.1 ((h.trans hsuf).trans (List.suffix_cons _ _)), fun h => hw.2 ((h.trans hsuf).trans (List.suffix_cons _ _))⟩
      have ha := tokOf_append b cls x r t rest ht (fun hx => ⟨fun hr => hw.1 (by rw [hx, hr]; exact List.suffix_refl _), fun hr => hw.2 (by rw [hx, hr]; exact List.suffix_refl _)⟩)
      rw [cut_step ha]
      have ih := cut_append b cls f (at_ + (r.length + 1 - rest.length)) rest F G (by omega) (by rw [List.length_append]; omega) hG hn hw'
      rw [show at_ + ((r ++ b).length + 1 - (rest ++ b).length) = at_ + (r.length + 1 - rest.length) from by rw [List.length_append, List.length_append]; omega, ih]
      rw [show at_ + (r.length + 1 - rest.length) + rest.length = at_ + (x :: r).length from by simp; omega]
      rfl
theorem cutAll_append (cls : List Nat → Option (BitVec 256)) (a b : List Nat) (ha : (cutAll cls a).1 = none) (hw : wholeEnd a) :
    cutAll cls (a ++ b) = (moveErr a.length (cutAll cls b).1, (cutAll cls a).2 ++ moveToks a.length (cutAll cls b).2) := by
  unfold cutAll at *
  rw [cut_append b cls (a.length + 1) 0 a ((a ++ b).length + 1) (b.length + 1) (by omega) (by omega) (by omega) ha hw]
  have := cut_shift cls a.length (b.length + 1) 0 b
  rw [this]
/-- each token takes a byte at least -/
theorem cut_length (cls : List Nat → Option (BitVec 256)) : ∀ (f at_ : Nat) (q : List Nat), (cutFrom cls f at_ q).2.length ≤ q.length
  | 0, _, _ => by simp [cutFrom]
  | f + 1, _, [] => by simp [cutFrom]
  | f + 1, at_, x :: r => by
    unfold cutFrom
    cases ht : tokOf cls x r with
    | bad e => simp
    | ok t rest =>
      have hs := (tokOf_suf cls x r t rest ht).length_le
      have := cut_length cls f (at_ + (r.length + 1 - rest.length)) rest
      simp
      omega
/-- a text of one token -/
theorem cut_one (cls : List Nat → Option (BitVec 256)) (x : Nat) (r : List Nat) (t : Tok) (h : tokOf cls x r = .ok t []) : cutAll cls (x :: r) = (none, [(t, 0)]) := by
  unfold cutAll cutFrom
  rw [h]
  simp [cutFrom]
theorem cut_bad (cls : List Nat → Option (BitVec 256)) (x : Nat) (r : List Nat) (e : Nat) (h : tokOf cls x r = .bad e) : cutAll cls (x :: r) = (some (0, e), []) := by
  unfold cutAll cutFrom
  rw [h]

/-! a byte behind a backslash; a byte alone -/
theorem esc_yes (cls : List Nat → Option (BitVec 256)) (c : Nat) (h : c ∈ specials) : cutAll cls [92, c] = (none, [(⟨1, oneByte c, 0, 0⟩, 0)]) := by
  refine cut_one cls 92 [c] _ ?_
  show escape [c] = _
  unfold escape
  simp only
  rw [if_pos h]
theorem esc_no (cls : List Nat → Option (BitVec 256)) (c : Nat) (h : ¬ c ∈ specials) : cutAll cls [92, c] = (some (0, if 49 ≤ c ∧ c ≤ 57 then 3 else 2), []) := by
  refine cut_bad cls 92 [c] _ ?_
  show escape [c] = _
  unfold escape
  simp only
  rw [if_neg h]
  split <;> rfl
theorem alone (cls : List Nat → Option (BitVec 256)) (c : Nat) (h : ¬ c ∈ specials) : cutAll cls [c] = (none, [(⟨1, oneByte c, 0, 0⟩, 0)]) := by
  have hn : ∀ x ∈ specials, c ≠ x := fun x hx e => h (by rw [e]; exact hx)
  refine cut_one cls c [] _ ?_
  unfold tokOf
  rw [if_neg (hn 42 (by decide)), if_neg (hn 43 (by decide)), if_neg (hn 63 (by decide)), if_neg (hn 123 (by decide)), if_neg (hn 40 (by decide)), if_neg (hn 41 (by decide)), if_neg (hn 124 (by decide)), if_neg (hn 94 (by decide)), if_neg (hn 36 (by decide)), if_neg (hn 46 (by decide)), if_neg (hn 92 (by decide)), if_neg (hn 91 (by decide))]
/-! numbers in braces -/
def numText (n : Nat) : List Nat := if n < 10 then [48 + n] else numText (n / 10) ++ [48 + n % 10]
termination_by n
theorem numText_dig (n : Nat) : numText n ≠ [] ∧ (∀ c ∈ numText n, isDig c = true) ∧ numOf (numText n) = n := by
  induction n using Nat.strongRecOn with
  | _ n ih =>
    rw [numText]
    by_cases h : n < 10
    · rw [if_pos h]
      refine ⟨by simp, ?_, ?_⟩
      · intro c hc
        simp at hc
        subst hc
        simp [isDig]; omega
      · simp [numOf]
    · rw [if_neg h]
      obtain ⟨h1, h2, h3⟩ := ih (n / 10) (by omega)
      refine ⟨by simp, ?_, ?_⟩
      · intro c hc
        rw [List.mem_append] at hc
        rcases hc with hc | hc
        · exact h2 c hc
        · simp at hc; subst hc; simp [isDig]; omega
      · unfold numOf at h3 ⊢
        rw [List.foldl_append, h3]
        simp; omega
theorem dig_run (l q : List Nat) (x : Nat) (hl : ∀ c ∈ l, isDig c = true) (hx : isDig x = false) : (l ++ x :: q).takeWhile isDig = l ∧ (l ++ x :: q).dropWhile isDig = x :: q := by
  induction l with
  | nil => simp [hx]
  | cons c l ih =>
    have hc := hl c (by simp)
    obtain ⟨h1, h2⟩ := ih (fun y hy => hl y (by simp [hy]))
    rw [List.cons_append, List.takeWhile_cons_of_pos hc, List.dropWhile_cons_of_pos hc, h1, h2]
    exact ⟨rfl, rfl⟩
theorem often_one (m : Nat) : often (numText m ++ [125]) = if 255 < m then .bad 4 else .ok ⟨6, 0, m, m⟩ [] := by
  obtain ⟨h1, h2, h3⟩ := numText_dig m
  obtain ⟨e1, e2⟩ := dig_run (numText m) [] 125 h2 (by decide)
  unfold often
  simp only
  rw [e1, e2, if_neg h1, h3]
  rfl
theorem often_from (m : Nat) : often (numText m ++ [44, 125]) = if 255 < m then .bad 4 else .ok ⟨6, 0, m, -1⟩ [] := by
  obtain ⟨h1, h2, h3⟩ := numText_dig m
  obtain ⟨e1, e2⟩ := dig_run (numText m) [125] 44 h2 (by decide)
  unfold often
  simp only
  rw [e1, e2, if_neg h1, h3]
  rfl
theorem often_two (m n : Nat) : often (numText m ++ 44 :: (numText n ++ [125])) = if 255 < m then .bad 4 else if 255 < n then .bad 4 else if n < m then .bad 2 else .ok ⟨6, 0, m, n⟩ [] := by
  obtain ⟨h1, h2, h3⟩ := numText_dig m
  obtain ⟨g1, g2, g3⟩ := numText_dig n
  obtain ⟨e1, e2⟩ := dig_run (numText m) (numText n ++ [125]) 44 h2 (by decide)
  obtain ⟨k1, k2⟩ := dig_run (numText n) [] 125 g2 (by decide)
  unfold often
  simp only
  rw [e1, e2, if_neg h1, h3]
  by_cases hm : 255 < m
  · rw [if_pos hm, if_pos hm]
  rw [if_neg hm, if_neg hm]
  cases hn : numText n with
  | nil => exact absurd hn g1
  | cons c l =>
    have hc : isDig c = true := g2 c (by rw [hn]; simp)
    have hc' : c ≠ 125 := by rintro rfl; revert hc; decide
    rw [hn] at k1 k2 g3
    rw [List.cons_append] at k1 k2 ⊢
    split
    · rename_i he; injection he with he1 _; omega
    · rename_i he; injection he with _ he2; injection he2 with he3 _; exact absurd he3 hc'
    · rename_i r3 _ he
      injection he with _ he2
      subst he2
      rw [k1, k2, if_neg (by simp), g3]
      rfl
    · rename_i _ _ h4; exact absurd rfl (h4 _)
/-! a check: the chapter's own example, and what tells the corners apart -/
def noClass : List Nat → Option (BitVec 256) := fun _ => none
theorem cut_samples : (cutAll noClass [97, 123, 50, 44, 125]).1 = none ∧ (cutAll noClass [97, 123, 50, 44, 125]).2.map (fun p => (p.1.kind, p.1.lo, p.1.hi, p.2)) = [(1, 0, 0, 0), (6, 2, -1, 1)] ∧
    (cutAll noClass [91, 93, 45, 97, 93]).1 = none ∧ (cutAll noClass [91, 97, 45, 99, 45, 101, 93]).1 = some (0, 2) ∧ (cutAll noClass [91, 97, 45, 91, 46, 120, 46, 93, 93]).1 = some (0, 3) ∧ (cutAll noClass [97, 123, 51, 44, 51, 48, 48]).1 = some (1, 4) ∧
    (cutAll noClass [91, 37, 45, 45, 93]).1 = none ∧ (cutAll noClass [91, 94, 0, 45, 255, 93]).1 = some (0, 2) := by decide +kernel
end Go.Proofs.YtlgpbgcheeaalaaGreatDoor
/-! The walks of token's has, single, repetition, number. -/
namespace Go.Proofs.YtlgpbgcheeaalaaGreatDoor
set_option maxRecDepth 100000
open Go.RowKit
/-- a text's bytes -/
def nats (s : ByteArray) : List Nat := s.data.toList.map UInt8.toNat
theorem nats_length (s : ByteArray) : (nats s).length = s.size := by rw [nats, List.length_map, ← Lib.size_eq]
theorem nats_at (s : ByteArray) (k : Nat) : (nats s)[k]? = if h : k < s.size then some (s[k]'h).toNat else none := by
  unfold nats
  by_cases h : k < s.size
  · rw [dif_pos h, List.getElem?_map, Array.getElem?_toList, Array.getElem?_eq_getElem h]
    rfl
  · rw [dif_neg h, List.getElem?_map, Array.getElem?_toList, Array.getElem?_eq_none (show s.data.size ≤ k from Nat.le_of_not_lt h)]
    rfl
theorem drop_head (l : List Nat) (k : Nat) : (l.drop k).head? = l[k]? := by simp
/-- what stands at a place, if the text has one there -/
theorem nats_cons {s : ByteArray} {k x : Nat} {r : List Nat} (h : (nats s).drop k = x :: r) : k < s.size ∧ (∀ h : k < s.size, (s[k]'h).toNat = x) ∧ x < 256 ∧ (nats s).drop (k + 1) = r := by
  have h1 : (nats s)[k]? = some x := by rw [← drop_head, h]; rfl
  rw [nats_at] at h1
  split at h1
  · rename_i hk
    injection h1 with h1
    exact ⟨hk, fun _ => h1, by rw [← h1]; exact UInt8.toNat_lt _, by rw [← List.drop_drop, h]; rfl⟩
  · cases h1
theorem nats_nil {s : ByteArray} {k : Nat} (h : (nats s).drop k = []) : s.size ≤ k := by
  rw [List.drop_eq_nil_iff, nats_length] at h; exact h
theorem ret_bool {a b : Bool} (h : a = b) : Ending.returned (.bool a) = .returned (.bool b) := by rw [h]
set_option maxHeartbeats 1000000 in
/-- has: whether a byte stands at a place -/
theorem has_q (s : ByteArray) (k : Nat) (q : List Nat) (b : Nat) (a c : Int) (ha : a = (k : Int)) (hc : c = (b : Int)) (hq : (nats s).drop k = q) (w : World) :
    Calls Tryz.prog 118 #[.string s, .int .i64 a, .int .u8 c] w fun e w' => e = .returned (.bool (decide (q.head? = some b))) ∧ w' = w := by
  subst ha hc
  rw [← hq, drop_head, nats_at]
  clear hq
  go_enter Tryz.func118, Tryz.ntmps118
  go_wp2
  all_goals go_ret
  all_goals refine ⟨ret_bool ?_, rfl⟩
  · rename_i h
    rw [Bool.eq_iff_iff]; simp; omega
  · rename_i h
    simp
/-- one byte of a bracket: it, or what is wrong -/
def singleM : List Nat → Nat × Nat
  | [] => (0, 2)
  | x :: r => if x = 91 then (if r.head? = some 46 ∨ r.head? = some 61 then (0, 3) else if r.head? = some 58 then (0, 2) else (91, 0)) else (x, 0)
theorem ret_ui {a b : Int} {c d : Int} (h : a = b) (h' : c = d) : Ending.returned (.tuple #[.int .u8 a, .int .i64 c]) = .returned (.tuple #[.int .u8 b, .int .i64 d]) := by rw [h, h']
set_option maxHeartbeats 1000000 in
theorem single_q (s : ByteArray) (k : Nat) (q : List Nat) (a : Int) (ha : a = (k : Int)) (hq : (nats s).drop k = q) (hk : k < 4294967296) (w : World) :
    Calls Tryz.prog 133 #[.string s, .int .i64 a] w fun e w' => e = .returned (.tuple #[.int .u8 (singleM q).1, .int .i64 (singleM q).2]) ∧ w' = w := by
  subst ha
  have Hq := Lib.hid hq
  clear hq
  cases q with
  | nil =>
    have hn := nats_nil Hq.out
    go_enter Tryz.func133, Tryz.ntmps133
    go_wp2
    all_goals try omega
    refine bodyPost_ret (v := .tuple #[.int .u8 0, .int .i64 2]) (by simp [results, Tryz.results133, go_sem]) rfl ⟨rfl, rfl⟩
  | cons x r =>
    obtain ⟨h1, h2, h3, h4⟩ := nats_cons Hq.out
    have H4 := Lib.hid h4
    clear h4
    go_enter Tryz.func133, Tryz.ntmps133
    go_wp2_with (go_at_call 118; refine (has_q s (k + 1) r _ _ _ (by omega) rfl H4.out _).mono ?_; rintro e w' ⟨rfl, rfl⟩)
    all_goals try omega
    · rename_i e
      have e' : x ≠ 91 := by simp at e; omega
      refine bodyPost_ret (v := .tuple #[.int .u8 x, .int .i64 0]) (by simp [results, Tryz.results133, go_sem]) rfl ⟨ret_ui ?_ ?_, rfl⟩ <;> simp [singleM, e']
    all_goals
      have e' : x = 91 := by simp_all; omega
      subst e'
    all_goals first
      | (refine bodyPost_ret (v := .tuple #[.int .u8 0, .int .i64 3]) (by simp [results, Tryz.results133, go_sem]) rfl ⟨ret_ui ?_ ?_, rfl⟩ <;> simp [singleM, *] <;> done)
      | (refine bodyPost_ret (v := .tuple #[.int .u8 0, .int .i64 2]) (by simp [results, Tryz.results133, go_sem]) rfl ⟨ret_ui ?_ ?_, rfl⟩ <;> simp [singleM, *] <;> done)
      | (refine bodyPost_ret (v := .tuple #[.int .u8 91, .int .i64 0]) (by simp [results, Tryz.results133, go_sem]) rfl ⟨ret_ui ?_ ?_, rfl⟩ <;> simp [singleM, *] <;> done)
theorem word_0 (i : Nat) : word (0#256) i = 0 := word_zero i
/-- a token, as the program holds it -/
abbrev tokV (t : Tok) (at_ : Int) : Value := .agg #[.int .i64 t.kind, .int .u64 (word t.set 0), .int .u64 (word t.set 1), .int .u64 (word t.set 2), .int .u64 (word t.set 3), .int .i64 t.lo, .int .i64 t.hi, .int .i64 at_]
/-- a token without a set -/
abbrev tokV0 (k : Nat) (lo hi : Int) : Value := .agg #[.int .i64 k, .int .u64 0, .int .u64 0, .int .u64 0, .int .u64 0, .int .i64 lo, .int .i64 hi, .int .i64 0]
theorem tokV_0 (k : Nat) (lo hi : Int) : tokV ⟨k, 0, lo, hi⟩ 0 = tokV0 k lo hi := by
  show Value.agg #[_, _, _, _, _, _, _, _] = _
  simp only [word_zero]
  rfl
/-- what next and its helpers hand back -/
def nextV (n : Nat) : TR → Value
  | .bad e => .tuple #[tokV0 0 0 0, .int .i64 0, .int .i64 e]
  | .ok t rest => .tuple #[tokV t 0, .int .i64 ((n - rest.length : Nat) : Int), .int .i64 0]
theorem nextV_ok0 (n k : Nat) (lo hi : Int) (rest : List Nat) : nextV n (.ok ⟨k, 0, lo, hi⟩ rest) = .tuple #[tokV0 k lo hi, .int .i64 ((n - rest.length : Nat) : Int), .int .i64 0] := by
  rw [← tokV_0]; rfl
theorem nextV_bad (n e : Nat) : nextV n (.bad e) = .tuple #[tokV0 0 0 0, .int .i64 0, .int .i64 e] := rfl
/-- a token that is a set -/
abbrev tokV1 (s : BitVec 256) : Value := .agg #[.int .i64 1, .int .u64 (word s 0), .int .u64 (word s 1), .int .u64 (word s 2), .int .u64 (word s 3), .int .i64 0, .int .i64 0, .int .i64 0]
theorem nextV_ok1 (n : Nat) (s : BitVec 256) (rest : List Nat) (d : Nat) (hd : n - rest.length = d) : nextV n (.ok ⟨1, s, 0, 0⟩ rest) = .tuple #[tokV1 s, .int .i64 (d : Nat), .int .i64 0] := by
  subst hd; rfl
set_option maxHeartbeats 1000000 in
theorem repetition_any (lo hi : Int) (w : World) :
    Calls Tryz.prog 98 #[.int .i64 lo, .int .i64 hi] w fun e w' => e = .returned (tokV0 6 lo hi) ∧ w' = w.alloc (.cells #[.int .i64 6, .int .u64 0, .int .u64 0, .int .u64 0, .int .u64 0, .int .i64 lo, .int .i64 hi, .int .i64 0] 135) := by
  go_enter Tryz.func98, Tryz.ntmps98
  go_wp2
  exact bodyPost_ret (v := tokV0 6 lo hi) (by simp [results, Tryz.results98, go_sem]) rfl ⟨rfl, rfl⟩
/-- what stands behind the digits, and their number as the program reckons it: never more than 256 -/
def capped (d : List Nat) : Nat := d.foldl (fun n c => min (10 * n + (c - 48)) 256) 0
def numberM (q : List Nat) : Nat × Nat × Nat :=
  let d := q.takeWhile isDig
  if d = [] then (0, 0, 2) else if 255 < capped d then (0, 0, 4) else (capped d, d.length, 0)
theorem ret_iii {a b c d e f : Int} (h : a = b) (h' : c = d) (h'' : e = f) : Ending.returned (.tuple #[.int .i64 a, .int .i64 c, .int .i64 e]) = .returned (.tuple #[.int .i64 b, .int .i64 d, .int .i64 f]) := by rw [h, h', h'']
theorem capped_le (d : List Nat) : capped d ≤ 256 := by
  have : ∀ (d : List Nat) (n : Nat), n ≤ 256 → d.foldl (fun n c => min (10 * n + (c - 48)) 256) n ≤ 256 := by
    intro d
    induction d with
    | nil => intro n h; exact h
    | cons c d ih => intro n _; exact ih _ (Nat.min_le_right _ _)
  exact this d 0 (by decide)
theorem capped_snoc (d : List Nat) (c : Nat) : capped (d ++ [c]) = min (10 * capped d + (c - 48)) 256 := by simp [capped]
def numV (k : Nat) (p : Nat × Nat × Nat) : Value := .tuple #[.int .i64 p.1, .int .i64 (if p.2.2 = 0 then k + p.2.1 else 0 : Nat), .int .i64 p.2.2]
/-- what the loop of number holds -/
def Digits (q : List Nat) (k : Nat) (n i : Value) (d r : List Nat) (x m : Nat) : Prop :=
  q = d ++ r ∧ (∀ c ∈ d, isDig c = true) ∧ x = k + d.length ∧ m = capped d ∧ n = .int .i64 m ∧ i = .int .i64 x
theorem drop_all : ∀ (d : List Nat), (∀ c ∈ d, isDig c = true) → d.dropWhile isDig = []
  | [], _ => rfl
  | c :: d, h => by rw [List.dropWhile_cons_of_pos (h c (by simp))]; exact drop_all d (fun x hx => h x (by simp [hx]))
theorem digits_end {q d r : List Nat} (hq : q = d ++ r) (hd : ∀ c ∈ d, isDig c = true) (hr : ∀ c r', r = c :: r' → isDig c = false) : q.takeWhile isDig = d ∧ q.dropWhile isDig = r := by
  subst hq
  cases r with
  | nil =>
    rw [List.append_nil]
    have h1 : d.takeWhile isDig = d := by
      have := List.takeWhile_append_dropWhile (p := isDig) (l := d)
      have h2 : d.dropWhile isDig = [] := drop_all d hd
      rw [h2, List.append_nil] at this
      exact this
    exact ⟨h1, drop_all d hd⟩
  | cons c r' => exact dig_run d r' c hd (hr c r' rfl)
theorem numberM_of {q d : List Nat} (h : q.takeWhile isDig = d) : numberM q = if d = [] then (0, 0, 2) else if 255 < capped d then (0, 0, 4) else (capped d, d.length, 0) := by
  unfold numberM; rw [h]
set_option maxHeartbeats 1000000 in
theorem number_q (s : ByteArray) (k : Nat) (q : List Nat) (a : Int) (ha : a = (k : Int)) (hq : (nats s).drop k = q) (hs : s.size < 4294967296) (w : World) :
    Calls Tryz.prog 117 #[.string s, .int .i64 a] w fun e w' => e = .returned (numV k (numberM q)) ∧ w' = w := by
  subst ha
  have Hq := Lib.hid hq
  clear hq
  generalize hP : numV k (numberM q) = P
  have HP := Lib.hid hP
  clear hP
  go_enter Tryz.func117, Tryz.ntmps117
  go_wp2
  go_loopw [7, 8] (fun n i wr => ∃ d r x m, Digits q k n i d r x m ∧ wr = w) (fun _ i _ => s.size + 1 - (intOf i).toNat)
  case atStart => exact ⟨[], q, k, 0, ⟨rfl, by simp, rfl, rfl, rfl, rfl⟩, rfl⟩
  case round =>
    obtain ⟨d, r, x, m, ⟨h1, h2, h3, h4, rfl, rfl⟩, rfl⟩ := hrel
    have hdr : (nats s).drop x = r := by rw [h3, ← List.drop_drop, Hq.out, h1, List.drop_left]
    have hm : m ≤ 256 := by rw [h4]; exact capped_le d
    have H1 := Lib.hid h1
    have H2 := Lib.hid h2
    have H3 := Lib.hid h3
    have H4 := Lib.hid h4
    have H5 := Lib.hid hdr
    clear h1 h2 h3 h4 hdr
    by_cases hdig : ∃ c r', r = c :: r' ∧ isDig c = true
    · obtain ⟨c, r', rfl, hc⟩ := hdig
      obtain ⟨g1, g2, g3, g4⟩ := nats_cons H5.out
      have hc' : 48 ≤ c ∧ c ≤ 57 := by simpa [isDig] using hc
      obtain ⟨hc1, hc2⟩ := hc'
      have Hc := Lib.hid hc
      clear hc g4
      go_wp2
      go_roundw
      case rel =>
        refine ⟨d ++ [c], r', x + 1, min (10 * m + (c - 48)) 256, ⟨by rw [H1.out]; simp, ?_, by rw [H3.out]; simp; omega, by rw [capped_snoc, H4.out], by go_num, by go_num⟩, trivial⟩
        intro y hy
        rcases List.mem_append.mp hy with hy | hy
        · exact H2.out y hy
        · rw [List.mem_singleton] at hy; rw [hy]; exact Hc.out
      case measure => simp [intOf]; omega
    · have hend : ∀ c r', r = c :: r' → isDig c = false := by
        intro c r' he
        cases hb : isDig c with
        | false => rfl
        | true => exact absurd ⟨c, r', he, hb⟩ hdig
      obtain ⟨e1, e2⟩ := digits_end H1.out H2.out hend
      have e3 := numberM_of e1
      have E3 := Lib.hid e3
      clear e1 e2 e3 hdig
      have hlen : x = k ↔ d = [] := by rw [H3.out]; cases d <;> simp
      have Hl := Lib.hid hlen
      clear hlen
      cases r with
      | nil =>
        have hn := nats_nil H5.out
        have Hend := Lib.hid hend
        clear hend
        go_wp2
        all_goals try omega
        all_goals rw [← HP.out, E3.out, ← H4.out]
        all_goals first
          | (refine bodyPost_ret (v := .tuple #[.int .i64 0, .int .i64 0, .int .i64 2]) (by simp [results, Tryz.results117, go_sem]) rfl ⟨?_, rfl⟩; rw [if_pos (Hl.out.mp (by simp_all; omega))]; rfl)
          | (refine bodyPost_ret (v := .tuple #[.int .i64 0, .int .i64 0, .int .i64 4]) (by simp [results, Tryz.results117, go_sem]) rfl ⟨?_, rfl⟩; rw [if_neg (fun h => absurd (Hl.out.mpr h) (by simp_all; omega)), if_pos (by omega)]; rfl)
          | (refine bodyPost_ret (v := .tuple #[.int .i64 m, .int .i64 x, .int .i64 0]) (by simp [results, Tryz.results117, go_sem]) rfl ⟨?_, rfl⟩; rw [if_neg (fun h => absurd (Hl.out.mpr h) (by simp_all; omega)), if_neg (by omega), H3.out]; rfl)
      | cons c r' =>
        obtain ⟨g1, g2, g3, g4⟩ := nats_cons H5.out
        have hc := hend c r' rfl
        have hc' : c < 48 ∨ 57 < c := by simp [isDig] at hc; omega
        have Hc := Lib.hid hc'
        clear hend hc hc' g4
        go_wp2
        all_goals have hc9 := Hc.out
        all_goals try omega
        all_goals rw [← HP.out, E3.out, ← H4.out]
        all_goals first
          | (refine bodyPost_ret (v := .tuple #[.int .i64 0, .int .i64 0, .int .i64 2]) (by simp [results, Tryz.results117, go_sem]) rfl ⟨?_, rfl⟩; rw [if_pos (Hl.out.mp (by simp_all; omega))]; rfl)
          | (refine bodyPost_ret (v := .tuple #[.int .i64 0, .int .i64 0, .int .i64 4]) (by simp [results, Tryz.results117, go_sem]) rfl ⟨?_, rfl⟩; rw [if_neg (fun h => absurd (Hl.out.mpr h) (by simp_all; omega)), if_pos (by omega)]; rfl)
          | (refine bodyPost_ret (v := .tuple #[.int .i64 m, .int .i64 x, .int .i64 0]) (by simp [results, Tryz.results117, go_sem]) rfl ⟨?_, rfl⟩; rw [if_neg (fun h => absurd (Hl.out.mpr h) (by simp_all; omega)), if_neg (by omega), H3.out]; rfl)
theorem capped_num (d : List Nat) : capped d = min (numOf d) 256 := by
  have : ∀ (d : List Nat) (a b : Nat), a = min b 256 → d.foldl (fun n c => min (10 * n + (c - 48)) 256) a = min (d.foldl (fun n c => 10 * n + (c - 48)) b) 256 := by
    intro d
    induction d with
    | nil => intro a b h; exact h
    | cons c d ih => intro a b h; exact ih _ _ (show min (10 * a + (c - 48)) 256 = min (10 * b + (c - 48)) 256 by omega)
  exact this d 0 0 rfl
/-- the three ways that a number can go -/
theorem number_ways (q : List Nat) : (q.takeWhile isDig = [] ∧ numberM q = (0, 0, 2)) ∨ (q.takeWhile isDig ≠ [] ∧ 255 < numOf (q.takeWhile isDig) ∧ numberM q = (0, 0, 4)) ∨
    (q.takeWhile isDig ≠ [] ∧ ¬ 255 < numOf (q.takeWhile isDig) ∧ numberM q = (numOf (q.takeWhile isDig), (q.takeWhile isDig).length, 0)) := by
  have h := numberM_of (q := q) rfl
  by_cases h0 : q.takeWhile isDig = []
  · rw [if_pos h0] at h; exact .inl ⟨h0, h⟩
  · rw [if_neg h0] at h
    by_cases h1 : 255 < numOf (q.takeWhile isDig)
    · rw [if_pos (by rw [capped_num]; omega)] at h; exact .inr (.inl ⟨h0, h1, h⟩)
    · rw [if_neg (by rw [capped_num]; omega), capped_num, Nat.min_eq_left (by omega)] at h; exact .inr (.inr ⟨h0, h1, h⟩)
theorem numV_bad (k e : Nat) (h : e ≠ 0) : numV k (0, 0, e) = .tuple #[.int .i64 0, .int .i64 0, .int .i64 e] := by
  unfold numV; simp only; rw [if_neg h]; rfl
theorem numV_ok (k n l : Nat) : numV k (n, l, 0) = .tuple #[.int .i64 n, .int .i64 (k + l : Nat), .int .i64 0] := rfl
/-! the same, of whatever place: told behind a name, so that a walk takes what is known of it -/
def hasB (s : ByteArray) (a c : Int) : Bool := decide ((nats s)[a.toNat]? = some c.toNat)
def numB (s : ByteArray) (a : Int) : Value := numV a.toNat (numberM ((nats s).drop a.toNat))
def sinB (s : ByteArray) (a : Int) : Value := .tuple #[.int .u8 (singleM ((nats s).drop a.toNat)).1, .int .i64 (singleM ((nats s).drop a.toNat)).2]
theorem has_b (s : ByteArray) (a c : Int) (ha : 0 ≤ a) (hc : 0 ≤ c) (w : World) :
    Calls Tryz.prog 118 #[.string s, .int .i64 a, .int .u8 c] w fun e w' => e = .returned (.bool (hasB s a c)) ∧ w' = w := by
  have := has_q s a.toNat _ c.toNat a c (by omega) (by omega) rfl w
  rw [drop_head] at this
  exact this
theorem number_b (s : ByteArray) (a : Int) (ha : 0 ≤ a) (hs : s.size < 4294967296) (w : World) :
    Calls Tryz.prog 117 #[.string s, .int .i64 a] w fun e w' => e = .returned (numB s a) ∧ w' = w :=
  number_q s a.toNat _ a (by omega) rfl hs w
theorem single_b (s : ByteArray) (a : Int) (ha : 0 ≤ a) (hk : a < 4294967296) (w : World) :
    Calls Tryz.prog 133 #[.string s, .int .i64 a] w fun e w' => e = .returned (sinB s a) ∧ w' = w :=
  single_q s a.toNat _ a (by omega) rfl (by omega) w
theorem hasB_q {s : ByteArray} {k : Nat} {q : List Nat} (hq : (nats s).drop k = q) (a : Int) (ha : a = (k : Int)) (c : Int) (b : Nat) (hc : c = (b : Int)) : hasB s a c = decide (q.head? = some b) := by
  subst ha hc
  unfold hasB
  rw [← hq, drop_head]; rfl
theorem numB_q {s : ByteArray} {k : Nat} {q : List Nat} (hq : (nats s).drop k = q) (a : Int) (ha : a = (k : Int)) : numB s a = numV k (numberM q) := by
  subst ha
  unfold numB
  rw [Int.toNat_natCast, hq]
theorem sinB_q {s : ByteArray} {k : Nat} {q : List Nat} (hq : (nats s).drop k = q) (a : Int) (ha : a = (k : Int)) : sinB s a = .tuple #[.int .u8 (singleM q).1, .int .i64 (singleM q).2] := by
  subst ha
  unfold sinB
  rw [Int.toNat_natCast, hq]
end Go.Proofs.YtlgpbgcheeaalaaGreatDoor
/-! The walk of token's braces. -/
namespace Go.Proofs.YtlgpbgcheeaalaaGreatDoor
set_option maxRecDepth 100000
open Go.RowKit
theorem often_bad {q : List Nat} (h : q.takeWhile isDig = []) : often q = .bad 2 := by
  unfold often; simp only; rw [if_pos h]
theorem often_large {q : List Nat} (h : q.takeWhile isDig ≠ []) (h2 : 255 < numOf (q.takeWhile isDig)) : often q = .bad 4 := by
  unfold often; simp only; rw [if_neg h, if_pos h2]
/-- what '{' begins, behind its first number -/
def oftenTail (m : Nat) (r : List Nat) : TR :=
  match r with
  | 125 :: r => .ok ⟨6, 0, m, m⟩ r
  | 44 :: 125 :: r => .ok ⟨6, 0, m, -1⟩ r
  | 44 :: r =>
    let d2 := r.takeWhile isDig
    if d2 = [] then .bad 2
    else if 255 < numOf d2 then .bad 4
    else match r.dropWhile isDig with
      | 125 :: r2 => if numOf d2 < m then .bad 2 else .ok ⟨6, 0, m, numOf d2⟩ r2
      | _ => .bad 2
  | _ => .bad 2
theorem often_tail {q : List Nat} (h : q.takeWhile isDig ≠ []) (h2 : ¬ 255 < numOf (q.takeWhile isDig)) : often q = oftenTail (numOf (q.takeWhile isDig)) (q.dropWhile isDig) := by
  unfold often oftenTail; simp only; rw [if_neg h, if_neg h2]; all_goals rfl
theorem tail_close (m : Nat) (r : List Nat) : oftenTail m (125 :: r) = .ok ⟨6, 0, m, m⟩ r := rfl
theorem tail_open (m : Nat) (r : List Nat) : oftenTail m (44 :: 125 :: r) = .ok ⟨6, 0, m, -1⟩ r := rfl
theorem tail_none (m : Nat) (r : List Nat) (h1 : r.head? ≠ some 125) (h2 : r.head? ≠ some 44) : oftenTail m r = .bad 2 := by
  unfold oftenTail
  split
  · exact absurd rfl h1
  · exact absurd rfl h2
  · exact absurd rfl h2
  · rfl
/-- what stands behind the second number -/
def closeAt (m n : Nat) (r : List Nat) : TR :=
  match r with
  | 125 :: r2 => if n < m then .bad 2 else .ok ⟨6, 0, m, n⟩ r2
  | _ => .bad 2
theorem close_one (m n : Nat) (r : List Nat) : closeAt m n (125 :: r) = if n < m then .bad 2 else .ok ⟨6, 0, m, n⟩ r := rfl
theorem close_none (m n : Nat) (r : List Nat) (h : r.head? ≠ some 125) : closeAt m n r = .bad 2 := by
  unfold closeAt
  split
  · exact absurd rfl h
  · rfl
theorem tail_two (m : Nat) (r : List Nat) (h : r.head? ≠ some 125) : oftenTail m (44 :: r) = if r.takeWhile isDig = [] then .bad 2
    else if 255 < numOf (r.takeWhile isDig) then .bad 4
    else closeAt m (numOf (r.takeWhile isDig)) (r.dropWhile isDig) := by
  cases r with
  | nil => rfl
  | cons y r2 =>
    unfold oftenTail
    split
    · rename_i he; injection he with he _; omega
    · rename_i he; injection he with _ he; injection he with he _; exact absurd (by rw [he]; rfl) h
    · rename_i he; injection he with _ he; rw [he]; rfl
    · rename_i h4; exact absurd rfl (h4 _)
theorem take_drop_len (p : Nat → Bool) : ∀ q : List Nat, q.drop (q.takeWhile p).length = q.dropWhile p
  | [] => rfl
  | x :: q => by
    by_cases h : p x = true
    · rw [List.takeWhile_cons_of_pos h, List.dropWhile_cons_of_pos h]; exact take_drop_len p q
    · rw [List.takeWhile_cons_of_neg h, List.dropWhile_cons_of_neg h]; rfl
theorem take_drop_size (q : List Nat) (p : Nat → Bool) : (q.takeWhile p).length + (q.dropWhile p).length = q.length := by
  rw [← List.length_append, List.takeWhile_append_dropWhile]
theorem head_cons {r : List Nat} {x : Nat} (h : r.head? = some x) : ∃ r', r = x :: r' := by
  cases r with
  | nil => cases h
  | cons y r => injection h with h; exact ⟨r, by rw [h]⟩
set_option maxHeartbeats 2000000 in
theorem braces_q (s : ByteArray) (q : List Nat) (hq : nats s = 123 :: q) (hs : s.size < 4294967296) (w : World) :
    Calls Tryz.prog 99 #[.string s] w fun e w' => e = .returned (nextV s.size (often q)) ∧ Below w.heap.size w w' := by
  have hq1 : (nats s).drop 1 = q := by rw [hq]; rfl
  have hl := nats_length s
  rw [hq, List.length_cons] at hl
  have Hq := Lib.hid hq1
  clear hq hq1
  have hn := numB_q Hq.out 1 rfl
  rcases number_ways q with ⟨h0, h1⟩ | ⟨h0, h1, h2⟩ | ⟨h0, h1, h2⟩
  · rw [often_bad h0]
    rw [h1, numV_bad _ _ (by decide)] at hn
    clear h0 h1 hl
    unfold nextV
    go_enter Tryz.func99, Tryz.ntmps99
    go_wp2_with (first
      | (go_at_call 117; refine (number_b s _ (by omega) hs _).mono ?_; rintro e w1 ⟨rfl, rfl⟩)
      | (go_at_call 118; refine (has_b s _ _ (by omega) (by omega) _).mono ?_; rintro e w1 ⟨rfl, rfl⟩)
      | (go_at_call 98; refine (repetition_any _ _ _).mono ?_; rintro e w1 ⟨rfl, rfl⟩))
    refine bodyPost_ret (v := .tuple #[tokV0 0 0 0, .int .i64 (0), .int .i64 2]) (by simp [results, Tryz.results99, go_sem]) rfl ⟨rfl, ?_⟩
    repeat (first | exact Below.refl _ _ | refine Below.drew ?_ | refine Below.alloc ?_ (by simp; try omega) _ | refine Below.setCell ?_ (by simp; try omega) _)
  · rw [often_large h0 h1]
    rw [h2, numV_bad _ _ (by decide)] at hn
    clear h0 h1 h2 hl
    unfold nextV
    go_enter Tryz.func99, Tryz.ntmps99
    go_wp2_with (first
      | (go_at_call 117; refine (number_b s _ (by omega) hs _).mono ?_; rintro e w1 ⟨rfl, rfl⟩)
      | (go_at_call 118; refine (has_b s _ _ (by omega) (by omega) _).mono ?_; rintro e w1 ⟨rfl, rfl⟩)
      | (go_at_call 98; refine (repetition_any _ _ _).mono ?_; rintro e w1 ⟨rfl, rfl⟩))
    refine bodyPost_ret (v := .tuple #[tokV0 0 0 0, .int .i64 (0), .int .i64 4]) (by simp [results, Tryz.results99, go_sem]) rfl ⟨rfl, ?_⟩
    repeat (first | exact Below.refl _ _ | refine Below.drew ?_ | refine Below.alloc ?_ (by simp; try omega) _ | refine Below.setCell ?_ (by simp; try omega) _)
  · rw [often_tail h0 h1]
    rw [h2, numV_ok] at hn
    obtain ⟨m, hm⟩ : ∃ m, m = numOf (q.takeWhile isDig) := ⟨_, rfl⟩
    obtain ⟨k, hk⟩ : ∃ k, k = 1 + (q.takeWhile isDig).length := ⟨_, rfl⟩
    obtain ⟨r, hr⟩ : ∃ r, r = q.dropWhile isDig := ⟨_, rfl⟩
    have hkr : (nats s).drop k = r := by rw [hk, ← List.drop_drop, Hq.out, take_drop_len, hr]
    have hkl : k + r.length = s.size := by rw [hk, hr]; have := take_drop_size q isDig; omega
    rw [← hm, ← hk] at hn
    rw [← hm, ← hr]
    clear h0 h1 h2 hm hk hr hl
    have e1 := hasB_q hkr k rfl 125 125 rfl
    have e2 := hasB_q hkr k rfl 44 44 rfl
    by_cases c1 : r.head? = some 125
    · obtain ⟨r', rfl⟩ := head_cons c1
      rw [decide_eq_true c1] at e1
      rw [tail_close, nextV_ok0, show s.size - r'.length = k + 1 from by simp at hkl; omega]
      have hk2 : k < 4294967296 := by simp at hkl; omega
      clear e2 c1 hkl hkr
      go_enter Tryz.func99, Tryz.ntmps99
      go_wp2_with (first
        | (go_at_call 117; refine (number_b s _ (by omega) hs _).mono ?_; rintro e w1 ⟨rfl, rfl⟩)
        | (go_at_call 118; refine (has_b s _ _ (by omega) (by omega) _).mono ?_; rintro e w1 ⟨rfl, rfl⟩)
        | (go_at_call 98; refine (repetition_any _ _ _).mono ?_; rintro e w1 ⟨rfl, rfl⟩))
      refine bodyPost_ret (v := .tuple #[tokV0 6 m m, .int .i64 ((k + 1 : Nat)), .int .i64 0]) (by simp [results, Tryz.results99, go_sem]) rfl ⟨rfl, ?_⟩
      repeat (first | exact Below.refl _ _ | refine Below.drew ?_ | refine Below.alloc ?_ (by simp; try omega) _ | refine Below.setCell ?_ (by simp; try omega) _)
    · rw [decide_eq_false c1] at e1
      by_cases c2 : r.head? = some 44
      · obtain ⟨r', rfl⟩ := head_cons c2
        rw [decide_eq_true c2] at e2
        have hkr1 : (nats s).drop (k + 1) = r' := by rw [← List.drop_drop, hkr]; rfl
        have e3 := hasB_q hkr1 (k + 1) (by omega) 125 125 rfl
        have hk2 : k + 1 + r'.length = s.size := by simp at hkl; omega
        clear c1 c2 hkl hkr
        by_cases c3 : r'.head? = some 125
        · obtain ⟨r3, rfl⟩ := head_cons c3
          rw [decide_eq_true c3] at e3
          rw [tail_open, nextV_ok0, show s.size - r3.length = k + 2 from by simp at hk2; omega]
          have hk3 : k < 4294967296 := by simp at hk2; omega
          clear c3 hk2 hkr1
          go_enter Tryz.func99, Tryz.ntmps99
          go_wp2_with (first
            | (go_at_call 117; refine (number_b s _ (by omega) hs _).mono ?_; rintro e w1 ⟨rfl, rfl⟩)
            | (go_at_call 118; refine (has_b s _ _ (by omega) (by omega) _).mono ?_; rintro e w1 ⟨rfl, rfl⟩)
            | (go_at_call 98; refine (repetition_any _ _ _).mono ?_; rintro e w1 ⟨rfl, rfl⟩))
          refine bodyPost_ret (v := .tuple #[tokV0 6 m (-1), .int .i64 ((k + 2 : Nat)), .int .i64 0]) (by simp [results, Tryz.results99, go_sem]) rfl ⟨rfl, ?_⟩
          repeat (first | exact Below.refl _ _ | refine Below.drew ?_ | refine Below.alloc ?_ (by simp; try omega) _ | refine Below.setCell ?_ (by simp; try omega) _)
        · rw [decide_eq_false c3] at e3
          rw [tail_two m r' c3]
          have hn2 := numB_q hkr1 (k + 1) (by omega)
          rcases number_ways r' with ⟨h0, h1⟩ | ⟨h0, h1, h2⟩ | ⟨h0, h1, h2⟩
          · rw [if_pos h0]
            rw [h1, numV_bad _ _ (by decide)] at hn2
            have hk3 : k < 4294967296 := by omega
            clear h0 h1 c3 hk2 hkr1
            unfold nextV
            go_enter Tryz.func99, Tryz.ntmps99
            go_wp2_with (first
              | (go_at_call 117; refine (number_b s _ (by omega) hs _).mono ?_; rintro e w1 ⟨rfl, rfl⟩)
              | (go_at_call 118; refine (has_b s _ _ (by omega) (by omega) _).mono ?_; rintro e w1 ⟨rfl, rfl⟩)
              | (go_at_call 98; refine (repetition_any _ _ _).mono ?_; rintro e w1 ⟨rfl, rfl⟩))
            refine bodyPost_ret (v := .tuple #[tokV0 0 0 0, .int .i64 (0), .int .i64 2]) (by simp [results, Tryz.results99, go_sem]) rfl ⟨rfl, ?_⟩
            repeat (first | exact Below.refl _ _ | refine Below.drew ?_ | refine Below.alloc ?_ (by simp; try omega) _ | refine Below.setCell ?_ (by simp; try omega) _)
          · rw [if_neg h0, if_pos h1]
            rw [h2, numV_bad _ _ (by decide)] at hn2
            have hk3 : k < 4294967296 := by omega
            clear h0 h1 h2 c3 hk2 hkr1
            unfold nextV
            go_enter Tryz.func99, Tryz.ntmps99
            go_wp2_with (first
              | (go_at_call 117; refine (number_b s _ (by omega) hs _).mono ?_; rintro e w1 ⟨rfl, rfl⟩)
              | (go_at_call 118; refine (has_b s _ _ (by omega) (by omega) _).mono ?_; rintro e w1 ⟨rfl, rfl⟩)
              | (go_at_call 98; refine (repetition_any _ _ _).mono ?_; rintro e w1 ⟨rfl, rfl⟩))
            refine bodyPost_ret (v := .tuple #[tokV0 0 0 0, .int .i64 (0), .int .i64 4]) (by simp [results, Tryz.results99, go_sem]) rfl ⟨rfl, ?_⟩
            repeat (first | exact Below.refl _ _ | refine Below.drew ?_ | refine Below.alloc ?_ (by simp; try omega) _ | refine Below.setCell ?_ (by simp; try omega) _)
          · rw [if_neg h0, if_neg h1]
            rw [h2, numV_ok] at hn2
            obtain ⟨n, hm⟩ : ∃ n, n = numOf (r'.takeWhile isDig) := ⟨_, rfl⟩
            obtain ⟨j, hk⟩ : ∃ j, j = k + 1 + (r'.takeWhile isDig).length := ⟨_, rfl⟩
            obtain ⟨r4, hr⟩ : ∃ r4, r4 = r'.dropWhile isDig := ⟨_, rfl⟩
            have hjr : (nats s).drop j = r4 := by rw [hk, ← List.drop_drop, hkr1, take_drop_len, hr]
            have hjl : j + r4.length = s.size := by rw [hk, hr]; have := take_drop_size r' isDig; omega
            rw [← hm, ← hk] at hn2
            rw [← hm, ← hr]
            have hk3 : k < 4294967296 := by omega
            clear h0 h1 h2 hm hk hr c3 hk2 hkr1
            have e4 := hasB_q hjr j rfl 125 125 rfl
            by_cases c4 : r4.head? = some 125
            · obtain ⟨r5, rfl⟩ := head_cons c4
              rw [decide_eq_true c4] at e4
              rw [close_one]
              have hj3 : j < 4294967296 := by simp at hjl; omega
              by_cases hnm : n < m
              · rw [if_pos hnm]
                have hd : decide ((n : Int) < m) = true := by simp; omega
                clear c4 hjl hjr
                unfold nextV
                go_enter Tryz.func99, Tryz.ntmps99
                go_wp2_with (first
                  | (go_at_call 117; refine (number_b s _ (by omega) hs _).mono ?_; rintro e w1 ⟨rfl, rfl⟩)
                  | (go_at_call 118; refine (has_b s _ _ (by omega) (by omega) _).mono ?_; rintro e w1 ⟨rfl, rfl⟩)
                  | (go_at_call 98; refine (repetition_any _ _ _).mono ?_; rintro e w1 ⟨rfl, rfl⟩))
                refine bodyPost_ret (v := .tuple #[tokV0 0 0 0, .int .i64 (0), .int .i64 2]) (by simp [results, Tryz.results99, go_sem]) rfl ⟨rfl, ?_⟩
                repeat (first | exact Below.refl _ _ | refine Below.drew ?_ | refine Below.alloc ?_ (by simp; try omega) _ | refine Below.setCell ?_ (by simp; try omega) _)
              · rw [if_neg hnm, nextV_ok0, show s.size - r5.length = j + 1 from by simp at hjl; omega]
                have hd : decide ((n : Int) < m) = false := by simp; omega
                clear c4 hjl hjr
                go_enter Tryz.func99, Tryz.ntmps99
                go_wp2_with (first
                  | (go_at_call 117; refine (number_b s _ (by omega) hs _).mono ?_; rintro e w1 ⟨rfl, rfl⟩)
                  | (go_at_call 118; refine (has_b s _ _ (by omega) (by omega) _).mono ?_; rintro e w1 ⟨rfl, rfl⟩)
                  | (go_at_call 98; refine (repetition_any _ _ _).mono ?_; rintro e w1 ⟨rfl, rfl⟩))
                refine bodyPost_ret (v := .tuple #[tokV0 6 m n, .int .i64 ((j + 1 : Nat)), .int .i64 0]) (by simp [results, Tryz.results99, go_sem]) rfl ⟨rfl, ?_⟩
                repeat (first | exact Below.refl _ _ | refine Below.drew ?_ | refine Below.alloc ?_ (by simp; try omega) _ | refine Below.setCell ?_ (by simp; try omega) _)
            · rw [decide_eq_false c4] at e4
              rw [close_none m n r4 c4]
              clear c4 hjl hjr
              unfold nextV
              go_enter Tryz.func99, Tryz.ntmps99
              go_wp2_with (first
                | (go_at_call 117; refine (number_b s _ (by omega) hs _).mono ?_; rintro e w1 ⟨rfl, rfl⟩)
                | (go_at_call 118; refine (has_b s _ _ (by omega) (by omega) _).mono ?_; rintro e w1 ⟨rfl, rfl⟩)
                | (go_at_call 98; refine (repetition_any _ _ _).mono ?_; rintro e w1 ⟨rfl, rfl⟩))
              refine bodyPost_ret (v := .tuple #[tokV0 0 0 0, .int .i64 (0), .int .i64 2]) (by simp [results, Tryz.results99, go_sem]) rfl ⟨rfl, ?_⟩
              repeat (first | exact Below.refl _ _ | refine Below.drew ?_ | refine Below.alloc ?_ (by simp; try omega) _ | refine Below.setCell ?_ (by simp; try omega) _)
      · rw [decide_eq_false c2] at e2
        rw [tail_none m r c1 c2]
        have hk2 : k < 4294967296 := by omega
        clear c1 c2 hkl hkr
        unfold nextV
        go_enter Tryz.func99, Tryz.ntmps99
        go_wp2_with (first
          | (go_at_call 117; refine (number_b s _ (by omega) hs _).mono ?_; rintro e w1 ⟨rfl, rfl⟩)
          | (go_at_call 118; refine (has_b s _ _ (by omega) (by omega) _).mono ?_; rintro e w1 ⟨rfl, rfl⟩)
          | (go_at_call 98; refine (repetition_any _ _ _).mono ?_; rintro e w1 ⟨rfl, rfl⟩))
        refine bodyPost_ret (v := .tuple #[tokV0 0 0 0, .int .i64 (0), .int .i64 2]) (by simp [results, Tryz.results99, go_sem]) rfl ⟨rfl, ?_⟩
        repeat (first | exact Below.refl _ _ | refine Below.drew ?_ | refine Below.alloc ?_ (by simp; try omega) _ | refine Below.setCell ?_ (by simp; try omega) _)
end Go.Proofs.YtlgpbgcheeaalaaGreatDoor
/-! The walk of token's escape. -/
namespace Go.Proofs.YtlgpbgcheeaalaaGreatDoor
set_option maxRecDepth 100000
open Go.RowKit
theorem special_at (c : Nat) (h : c < 256) : decide (Lib.indexByte [46, 91, 93, 92, 40, 41, 42, 43, 63, 123, 125, 124, 94, 36, 45] ((c : Int).toNat.toUInt8) < 0) = !decide (c ∈ specials) := by
  have : ∀ c : Fin 256, decide (Lib.indexByte [46, 91, 93, 92, 40, 41, 42, 43, 63, 123, 125, 124, 94, 36, 45] (c.val.toUInt8) < 0) = !decide (c.val ∈ specials) := by decide +kernel
  exact this ⟨c, h⟩
theorem special_digit : ∀ c, 49 ≤ c → c ≤ 57 → ¬ c ∈ specials := by
  intro c h1 h2 h
  simp [specials] at h
  omega
theorem setOf_one (c : Nat) : setOf [c] = oneByte c := rfl
def idxV (c : Nat) : Int := Lib.indexByte [46, 91, 93, 92, 40, 41, 42, 43, 63, 123, 125, 124, 94, 36, 45] ((c : Int).toNat.toUInt8)
theorem idx_any' (c : Nat) (b : Int) (hb : b = c) (s : ByteArray) (hs : s = ⟨#[46, 91, 93, 92, 40, 41, 42, 43, 63, 123, 125, 124, 94, 36, 45]⟩) (w : World) :
    Calls Tryz.prog 121 #[.string s, .int .u8 b] w fun e w' => e = .returned (.int .i64 (idxV c)) ∧ w' = w := by
  subst hb hs
  exact Tryz.strings_IndexByte _ c w
set_option maxHeartbeats 2000000 in
theorem escape_q (s : ByteArray) (q : List Nat) (hq : nats s = 92 :: q) (hs : s.size < 4294967296) (w : World) :
    Calls Tryz.prog 102 #[.string s] w fun e w' => e = .returned (nextV s.size (escape q)) ∧ Below w.heap.size w w' := by
  have hq1 : (nats s).drop 1 = q := by rw [hq]; rfl
  have hl := nats_length s
  rw [hq, List.length_cons] at hl
  clear hq
  cases q with
  | nil =>
    have h1 : (s.size : Int) < 2 := by simp at hl; omega
    clear hq1 hl
    unfold escape nextV
    go_enter Tryz.func102, Tryz.ntmps102
    go_wp2
    all_goals try omega
    refine bodyPost_ret (v := .tuple #[tokV0 0 0 0, .int .i64 0, .int .i64 2]) (by simp [results, Tryz.results102, go_sem]) rfl ⟨rfl, ?_⟩
    repeat (first | exact Below.refl _ _ | refine Below.drew ?_ | refine Below.alloc ?_ (by simp; try omega) _ | refine Below.setCell ?_ (by simp; try omega) _)
  | cons c r =>
    obtain ⟨g1, g2, g3, g4⟩ := nats_cons hq1
    have hsp := special_at c g3
    rw [show Lib.indexByte _ _ = idxV c from rfl] at hsp
    simp only [List.length_cons] at hl
    clear hq1 g4
    have hof := fun g n cap w => of_any g n cap [c] w
    rw [setOf_one] at hof
    by_cases hc : c ∈ specials
    · rw [decide_eq_true hc, Bool.not_true] at hsp
      have he : escape (c :: r) = .ok ⟨1, oneByte c, 0, 0⟩ r := by unfold escape; simp only; rw [if_pos hc]
      have hd : ¬ (49 ≤ c ∧ c ≤ 57) := fun h => special_digit c h.1 h.2 hc
      have Hd := Lib.hid hd
      rw [he, nextV_ok1 _ _ _ 2 (by omega)]
      have Hl := Lib.hid hl
      clear hl he hd hc
      generalize oneByte c = S at *
      go_enter Tryz.func102, Tryz.ntmps102
      go_wp2_with (first
        | (go_at_call 121; refine (idx_any' c _ rfl _ rfl _).mono ?_; rintro e w1 ⟨rfl, rfl⟩))
      all_goals have Hd' := Hd.out
      all_goals try omega
      all_goals
        refine (hof _ _ _ _ (bytesAt_new [c] (by simp; exact g3) (by simp [maxLen]) rfl (by simp) rfl (Nat.le_refl 1))).mono ?_
        rintro e w1 ⟨rfl, hb1⟩
        have c1 : ∀ o, w1.cell? ⟨w.heap.size, o, none⟩ = _ := fun o => hb1.cell (p := ⟨w.heap.size, o, none⟩) (by simp; try omega)
        have f1 : ∀ o, w1.frozen? ⟨w.heap.size, o, none⟩ = _ := fun o => hb1.frozen (p := ⟨w.heap.size, o, none⟩) (by simp; try omega)
        have hz1 : w.heap.size < w1.heap.size := by have := hb1.size; simp at this; omega
        have B1 : Below w.heap.size w w1 := (((Below.refl _ _).alloc (Nat.le_refl _) _).alloc (by simp) _).trans (hb1.mono (by simp; omega))
        go_wp2_with fail
        refine bodyPost_ret (v := .tuple #[tokV1 S, .int .i64 (2 : Nat), .int .i64 0]) (by simp [results, Tryz.results102, go_sem, c1]) rfl ⟨rfl, ?_⟩
        iterate 8 (refine Below.setCell ?_ (by simp) _)
        exact B1
    · rw [decide_eq_false hc, Bool.not_false] at hsp
      by_cases hd : 49 ≤ c ∧ c ≤ 57
      · have he : escape (c :: r) = .bad 3 := by unfold escape; simp only; rw [if_neg hc, if_pos hd]
        rw [he, nextV_bad]
        have Hd := Lib.hid hd
        have Hl := Lib.hid hl
        clear hl he hd hc hof
        go_enter Tryz.func102, Tryz.ntmps102
        go_wp2_with (first
          | (go_at_call 121; refine (idx_any' c _ rfl _ rfl _).mono ?_; rintro e w1 ⟨rfl, rfl⟩))
        all_goals have Hd' := Hd.out
        all_goals try omega
        all_goals
          refine bodyPost_ret (v := .tuple #[tokV0 0 0 0, .int .i64 0, .int .i64 3]) (by simp [results, Tryz.results102, go_sem]) rfl ⟨rfl, ?_⟩
          repeat (first | exact Below.refl _ _ | refine Below.drew ?_ | refine Below.alloc ?_ (by simp; try omega) _ | refine Below.setCell ?_ (by simp; try omega) _)
      · have he : escape (c :: r) = .bad 2 := by unfold escape; simp only; rw [if_neg hc, if_neg hd]
        rw [he, nextV_bad]
        have Hd := Lib.hid hd
        have Hl := Lib.hid hl
        clear hl he hd hc hof
        go_enter Tryz.func102, Tryz.ntmps102
        go_wp2_with (first
          | (go_at_call 121; refine (idx_any' c _ rfl _ rfl _).mono ?_; rintro e w1 ⟨rfl, rfl⟩))
        all_goals have Hd' := Hd.out
        all_goals try omega
        all_goals
          refine bodyPost_ret (v := .tuple #[tokV0 0 0 0, .int .i64 0, .int .i64 2]) (by simp [results, Tryz.results102, go_sem]) rfl ⟨rfl, ?_⟩
          repeat (first | exact Below.refl _ _ | refine Below.drew ?_ | refine Below.alloc ?_ (by simp; try omega) _ | refine Below.setCell ?_ (by simp; try omega) _)
end Go.Proofs.YtlgpbgcheeaalaaGreatDoor
/-! The walk of token's named: a class in a bracket. -/
namespace Go.Proofs.YtlgpbgcheeaalaaGreatDoor
set_option maxRecDepth 100000
open Go.RowKit
/-- a text of these bytes -/
def ofNats (l : List Nat) : ByteArray := ⟨(toBytes l).toArray⟩
/-- the classes by name, as class.Named tells them -/
def cls (n : List Nat) : Option (BitVec 256) := if (classOf (toBytes n)).2 then some (classOf (toBytes n)).1 else none
theorem toBytes_nat (l : List UInt8) : toBytes (l.map UInt8.toNat) = l := by
  unfold toBytes
  rw [List.map_map]
  conv => rhs; rw [← List.map_id l]
  apply List.map_congr_left
  intro x _
  simp
theorem nats_extract (s : ByteArray) (k : Nat) : nats (s.extract k s.size) = (nats s).drop k := by
  unfold nats
  rw [Lib.extract_eq, ← List.map_drop, List.take_of_length_le (by rw [List.length_drop, ← Lib.size_eq]; exact Nat.le_refl _)]
theorem nats_eq {x y : ByteArray} (h : nats x = nats y) : x = y := by
  have h1 : x.data.toList = y.data.toList := by rw [← toBytes_nat x.data.toList, ← toBytes_nat y.data.toList]; exact congrArg toBytes h
  rw [← Lib.mk_data x, ← Lib.mk_data y, h1]
/-- where the first ':]' stands -/
theorem index_class : ∀ l : List UInt8, match classEnd (l.map UInt8.toNat) with
    | none => Lib.index l [58, 93] = -1
    | some p => Lib.index l [58, 93] = p.1.length ∧ l.map UInt8.toNat = p.1 ++ 58 :: 93 :: p.2
  | [] => by simp [classEnd, Lib.index]
  | [x] => by
    simp only [List.map, classEnd, Lib.index]
    simp [List.isPrefixOf]
  | x :: y :: r => by
    have ih := index_class (y :: r)
    rw [List.map_cons, List.map_cons, classEnd]
    rw [List.map_cons] at ih
    by_cases hc : x.toNat = 58 ∧ y.toNat = 93
    · rw [if_pos hc]
      obtain ⟨h1, h2⟩ := hc
      have e1 : x = 58 := UInt8.toNat_inj.mp h1
      have e2 : y = 93 := UInt8.toNat_inj.mp h2
      subst e1 e2
      simp [Lib.index, List.isPrefixOf]
    · rw [if_neg hc]
      have hne : ([58, 93] : List UInt8).isPrefixOf (x :: y :: r) = false := by
        simp only [List.isPrefixOf, Bool.and_true]
        rw [Bool.and_eq_false_iff]
        by_cases h1 : x = 58
        · right
          rw [beq_eq_false_iff_ne]
          rintro rfl
          exact hc ⟨by rw [h1]; rfl, rfl⟩
        · left
          rw [beq_eq_false_iff_ne]
          exact fun h => h1 h.symm
      have hidx : Lib.index (x :: y :: r) [58, 93] = if Lib.index (y :: r) [58, 93] == -1 then -1 else Lib.index (y :: r) [58, 93] + 1 := by
        conv => lhs; unfold Lib.index
        rw [hne]; rfl
      rw [hidx]
      cases hce : classEnd (y.toNat :: List.map UInt8.toNat r) with
      | none => rw [hce] at ih; simp only [Option.map_none] at ih ⊢; rw [ih]; rfl
      | some p =>
        rw [hce] at ih
        simp only [Option.map_some] at ih ⊢
        obtain ⟨h1, h2⟩ := ih
        rw [h1, h2, if_neg (by simp)]
        exact ⟨by simp, rfl⟩
/-- internal/bytealg's MaxLen holds some number -/
def MaxAt (w : World) : Prop := ∃ m, w.cell? ⟨2, 0, none⟩ = some (.int .i64 m)
theorem maxAt_below {w w' : World} (h : MaxAt w) (hb : Below w.heap.size w w') : MaxAt w' := by
  obtain ⟨m, hm⟩ := h
  exact ⟨m, by rw [hb.cell (p := ⟨2, 0, none⟩) (World.block_lt_of_cell? w _ hm)]; exact hm⟩
theorem cut_some (x s2 : ByteArray) (q n rest : List Nat) (h2 : s2 = ⟨#[58, 93]⟩) (hq : nats x = q) (hc : classEnd q = some (n, rest)) (hs : x.size < 4294967281) (w : World) (hm : MaxAt w) :
    Calls Tryz.prog 143 #[.string x, .string s2] w fun e w' => ∃ R, e = .returned (.tuple #[.string (ofNats n), .string R, .bool true]) ∧ Below w.heap.size w w' := by
  obtain ⟨m, hm⟩ := hm
  subst h2
  have hi := index_class x.data.toList
  rw [show x.data.toList.map UInt8.toNat = q from hq, hc] at hi
  obtain ⟨h1, h2⟩ := hi
  have hn : (Lib.cut x.data.toList [58, 93]).1 = toBytes n ∧ (Lib.cut x.data.toList [58, 93]).2.2 = true := by
    unfold Lib.cut
    rw [h1, if_pos (by omega)]
    refine ⟨?_, rfl⟩
    rw [← toBytes_nat x.data.toList, show x.data.toList.map UInt8.toNat = n ++ 58 :: 93 :: rest from by rw [← h2]; exact hq]
    unfold toBytes
    rw [← List.map_take, Int.toNat_natCast, List.take_left]
  have := Tryz.strings_Cut x ⟨#[58, 93]⟩ m w hs hm
  rw [show (⟨#[58, 93]⟩ : ByteArray).data.toList = [58, 93] from rfl, hn.1, hn.2] at this
  exact this.mono fun e w' ⟨he, k, hw⟩ => ⟨_, he, by rw [hw]; exact below_drewN (Below.refl _ _) k⟩
theorem cut_none (x s2 : ByteArray) (q : List Nat) (h2 : s2 = ⟨#[58, 93]⟩) (hq : nats x = q) (hc : classEnd q = none) (hs : x.size < 4294967281) (w : World) (hm : MaxAt w) :
    Calls Tryz.prog 143 #[.string x, .string s2] w fun e w' => e = .returned (.tuple #[.string x, .string ⟨#[]⟩, .bool false]) ∧ Below w.heap.size w w' := by
  obtain ⟨m, hm⟩ := hm
  subst h2
  have hi := index_class x.data.toList
  rw [show x.data.toList.map UInt8.toNat = q from hq, hc] at hi
  have hn : Lib.cut x.data.toList [58, 93] = (x.data.toList, [], false) := by
    unfold Lib.cut
    rw [if_neg (by rw [hi]; decide)]
  have := Tryz.strings_Cut x ⟨#[58, 93]⟩ m w hs hm
  rw [show (⟨#[58, 93]⟩ : ByteArray).data.toList = [58, 93] from rfl, hn] at this
  refine this.mono fun e w' ⟨he, k, hw⟩ => ⟨?_, by rw [hw]; exact below_drewN (Below.refl _ _) k⟩
  rw [he]
/-- what item and named hand back: where it ends, counted from the text's end -/
def itemV (n : Nat) : BR → Value
  | .bad e => .tuple #[.agg #[.int .u64 0, .int .u64 0, .int .u64 0, .int .u64 0], .int .i64 0, .int .i64 e]
  | .ok t rest => .tuple #[SV t, .int .i64 ((n - rest.length : Nat) : Int), .int .i64 0]
theorem itemV_bad (n e : Nat) : itemV n (.bad e) = .tuple #[.agg #[.int .u64 0, .int .u64 0, .int .u64 0, .int .u64 0], .int .i64 0, .int .i64 e] := rfl
theorem itemV_ok (n : Nat) (t : BitVec 256) (rest : List Nat) (d : Nat) (hd : n - rest.length = d) : itemV n (.ok t rest) = .tuple #[SV t, .int .i64 (d : Nat), .int .i64 0] := by
  subst hd; rfl
theorem classEnd_len : ∀ (q n rest : List Nat), classEnd q = some (n, rest) → q.length = n.length + 2 + rest.length
  | [], _, _, h => by simp [classEnd] at h
  | [_], _, _, h => by simp [classEnd] at h
  | x :: y :: r, n, rest, h => by
    unfold classEnd at h
    split at h
    · simp at h; obtain ⟨rfl, rfl⟩ := h; simp; omega
    · simp only [Option.map_eq_some_iff] at h
      obtain ⟨p, hp, he⟩ := h
      have := classEnd_len (y :: r) p.1 p.2 hp
      simp at he
      obtain ⟨rfl, rfl⟩ := he
      simp at this ⊢
      omega
theorem named_nats (x : ByteArray) (w : World) : Calls Tryz.prog 144 #[.string x] w fun e w' => e = .returned (.tuple #[SV (classOf x.toList).1, .bool (classOf x.toList).2]) ∧ Below w.heap.size w w' := named_any x w
theorem ofNats_list (n : List Nat) : (ofNats n).toList = toBytes n := by
  rw [Lib.toList_data]; rfl
theorem ofNats_size (n : List Nat) : (ofNats n).size = n.length := by
  rw [Lib.size_eq]; show (toBytes n).length = _; simp [toBytes]
set_option maxHeartbeats 2000000 in
theorem named_q (s : ByteArray) (k : Nat) (q : List Nat) (a : Int) (ha : a = (k : Int)) (hq : (nats s).drop (k + 2) = q) (hk : k + 2 ≤ s.size) (hs : s.size < 4294967281) (w : World) (hm : MaxAt w) :
    Calls Tryz.prog 132 #[.string s, .int .i64 a] w fun e w' => e = .returned (itemV s.size (classItem cls q)) ∧ Below w.heap.size w w' := by
  subst ha
  have hx : nats (s.extract (k + 2) s.size) = q := by rw [nats_extract, hq]
  have hxs : (s.extract (k + 2) s.size).size < 4294967281 := by rw [ByteArray.size_extract]; omega
  have hlen : k + 2 + q.length = s.size := by rw [← hq, List.length_drop, nats_length]; omega
  clear hq
  have hk0 : (k : Int) + 2 ≤ s.size := by omega
  have hk1 : (0 : Int) ≤ (k : Int) + 2 := by omega
  have hk2 : ((k : Int) + 2).toNat = k + 2 := by omega
  unfold classItem
  cases hc : classEnd q with
  | none =>
    simp only
    rw [itemV_bad]
    have hcut := cut_none _ ⟨#[58, 93]⟩ q rfl hx hc hxs
    go_enter Tryz.func132, Tryz.ntmps132
    go_wp2_with fail
    refine (hcut _ (maxAt_below hm ((Below.refl _ _).alloc (Nat.le_refl _) _))).mono ?_
    rintro e w1 ⟨rfl, hb1⟩
    have c1 : ∀ o, w1.cell? ⟨w.heap.size, o, none⟩ = _ := fun o => hb1.cell (p := ⟨w.heap.size, o, none⟩) (by simp; try omega)
    have f1 : ∀ o, w1.frozen? ⟨w.heap.size, o, none⟩ = _ := fun o => hb1.frozen (p := ⟨w.heap.size, o, none⟩) (by simp; try omega)
    have hz1 : w.heap.size < w1.heap.size := by have := hb1.size; simp at this; omega
    have B1 : Below w.heap.size w w1 := ((Below.refl _ _).alloc (Nat.le_refl _) _).trans (hb1.mono (by simp))
    go_wp2_with fail
    refine (named_nats _ _).mono ?_
    rintro e w2 ⟨rfl, hb2⟩
    have c2 : ∀ o, w2.cell? ⟨w.heap.size, o, none⟩ = w1.cell? ⟨w.heap.size, o, none⟩ := fun o => hb2.cell (p := ⟨w.heap.size, o, none⟩) hz1
    have f2 : ∀ o, w2.frozen? ⟨w.heap.size, o, none⟩ = w1.frozen? ⟨w.heap.size, o, none⟩ := fun o => hb2.frozen (p := ⟨w.heap.size, o, none⟩) hz1
    have hz2 : w.heap.size < w2.heap.size := by have := hb2.size; omega
    have hz3 : w.heap.size ≠ w2.heap.size := by omega
    have B2 : Below w.heap.size w w2 := B1.trans (hb2.mono (by omega))
    go_wp2_with fail
    refine bodyPost_ret (v := .tuple #[.agg #[.int .u64 0, .int .u64 0, .int .u64 0, .int .u64 0], .int .i64 0, .int .i64 2]) (by simp [results, Tryz.results132, go_sem, c1, c2, cell_alloc_old, hz2]) rfl ⟨rfl, ?_⟩
    refine Below.alloc ?_ (by simp; omega) _
    iterate 4 (refine Below.setCell ?_ (by simp) _)
    exact B2
  | some p =>
    obtain ⟨n, rest⟩ := p
    simp only
    have hcut := cut_some _ ⟨#[58, 93]⟩ q n rest rfl hx hc hxs
    have hnamed := named_any (ofNats n)
    rw [ofNats_list] at hnamed
    have hi := classEnd_len _ _ _ hc
    unfold cls
    cases hok : (classOf (toBytes n)).2 with
    | false =>
      rw [hok] at hnamed
      rw [if_neg (by simp), itemV_bad]
      generalize (classOf (toBytes n)).1 = T at *
      go_enter Tryz.func132, Tryz.ntmps132
      go_wp2_with fail
      refine (hcut _ (maxAt_below hm ((Below.refl _ _).alloc (Nat.le_refl _) _))).mono ?_
      rintro e w1 ⟨R, rfl, hb1⟩
      have c1 : ∀ o, w1.cell? ⟨w.heap.size, o, none⟩ = _ := fun o => hb1.cell (p := ⟨w.heap.size, o, none⟩) (by simp; try omega)
      have f1 : ∀ o, w1.frozen? ⟨w.heap.size, o, none⟩ = _ := fun o => hb1.frozen (p := ⟨w.heap.size, o, none⟩) (by simp; try omega)
      have hz1 : w.heap.size < w1.heap.size := by have := hb1.size; simp at this; omega
      have B1 : Below w.heap.size w w1 := ((Below.refl _ _).alloc (Nat.le_refl _) _).trans (hb1.mono (by simp))
      go_wp2_with fail
      refine (hnamed _).mono ?_
      rintro e w2 ⟨rfl, hb2⟩
      have c2 : ∀ o, w2.cell? ⟨w.heap.size, o, none⟩ = w1.cell? ⟨w.heap.size, o, none⟩ := fun o => hb2.cell (p := ⟨w.heap.size, o, none⟩) hz1
      have f2 : ∀ o, w2.frozen? ⟨w.heap.size, o, none⟩ = w1.frozen? ⟨w.heap.size, o, none⟩ := fun o => hb2.frozen (p := ⟨w.heap.size, o, none⟩) hz1
      have hz2 : w.heap.size < w2.heap.size := by have := hb2.size; omega
      have hz3 : w.heap.size ≠ w2.heap.size := by omega
      have B2 : Below w.heap.size w w2 := B1.trans (hb2.mono (by omega))
      go_wp2_with fail
      refine bodyPost_ret (v := .tuple #[.agg #[.int .u64 0, .int .u64 0, .int .u64 0, .int .u64 0], .int .i64 0, .int .i64 2]) (by simp [results, Tryz.results132, go_sem, c1, c2, cell_alloc_old, hz2]) rfl ⟨rfl, ?_⟩
      refine Below.alloc ?_ (by simp; omega) _
      iterate 4 (refine Below.setCell ?_ (by simp) _)
      exact B2
    | true =>
      rw [hok] at hnamed
      rw [if_pos rfl]
      simp only
      rw [itemV_ok _ _ _ (k + n.length + 4) (by omega)]
      generalize (classOf (toBytes n)).1 = T at *
      have hns : (ofNats n).size = n.length := ofNats_size n
      go_enter Tryz.func132, Tryz.ntmps132
      go_wp2_with fail
      refine (hcut _ (maxAt_below hm ((Below.refl _ _).alloc (Nat.le_refl _) _))).mono ?_
      rintro e w1 ⟨R, rfl, hb1⟩
      have c1 : ∀ o, w1.cell? ⟨w.heap.size, o, none⟩ = _ := fun o => hb1.cell (p := ⟨w.heap.size, o, none⟩) (by simp; try omega)
      have f1 : ∀ o, w1.frozen? ⟨w.heap.size, o, none⟩ = _ := fun o => hb1.frozen (p := ⟨w.heap.size, o, none⟩) (by simp; try omega)
      have hz1 : w.heap.size < w1.heap.size := by have := hb1.size; simp at this; omega
      have B1 : Below w.heap.size w w1 := ((Below.refl _ _).alloc (Nat.le_refl _) _).trans (hb1.mono (by simp))
      go_wp2_with fail
      refine (hnamed _).mono ?_
      rintro e w2 ⟨rfl, hb2⟩
      have c2 : ∀ o, w2.cell? ⟨w.heap.size, o, none⟩ = w1.cell? ⟨w.heap.size, o, none⟩ := fun o => hb2.cell (p := ⟨w.heap.size, o, none⟩) hz1
      have f2 : ∀ o, w2.frozen? ⟨w.heap.size, o, none⟩ = w1.frozen? ⟨w.heap.size, o, none⟩ := fun o => hb2.frozen (p := ⟨w.heap.size, o, none⟩) hz1
      have hz2 : w.heap.size < w2.heap.size := by have := hb2.size; omega
      have hz3 : w.heap.size ≠ w2.heap.size := by omega
      have B2 : Below w.heap.size w w2 := B1.trans (hb2.mono (by omega))
      go_wp2_with fail
      refine bodyPost_ret (v := .tuple #[SV T, .int .i64 (k + n.length + 4 : Nat), .int .i64 0]) (by simp [results, Tryz.results132, go_sem, c1, c2, cell_alloc_old, hz2]) rfl ⟨rfl, ?_⟩
      refine Below.alloc ?_ (by simp; omega) _
      iterate 4 (refine Below.setCell ?_ (by simp) _)
      exact B2
end Go.Proofs.YtlgpbgcheeaalaaGreatDoor
/-! The walk of token's item. -/
namespace Go.Proofs.YtlgpbgcheeaalaaGreatDoor
set_option maxRecDepth 100000
open Go.RowKit
/-- whether a text begins with another: told behind a name -/
def preB (x y : ByteArray) : Bool := Lib.hasPrefix x.data.toList y.data.toList
theorem pre_b (x y : ByteArray) (w : World) : Calls Tryz.prog 100 #[.string x, .string y] w fun e w' => e = .returned (.bool (preB x y)) ∧ w' = w :=
  Tryz.strings_HasPrefix x y w
theorem preB_two (x : ByteArray) (q : List Nat) (hx : nats x = q) : preB x ⟨#[91, 58]⟩ = decide (q.head? = some 91 ∧ q.tail.head? = some 58) := by
  subst hx
  unfold preB Lib.hasPrefix nats
  rw [show (⟨#[91, 58]⟩ : ByteArray).data.toList = [91, 58] from rfl]
  match x.data.toList with
  | [] => rfl
  | [a] => simp [List.isPrefixOf]
  | a :: b :: l =>
    simp only [List.isPrefixOf, List.map_cons, List.head?_cons, List.tail_cons, Option.some.injEq, Bool.and_true]
    rw [Bool.eq_iff_iff]
    simp only [Bool.and_eq_true, beq_iff_eq, decide_eq_true_eq]
    constructor
    · rintro ⟨h1, h2⟩; rw [← h1, ← h2]; exact ⟨rfl, rfl⟩
    · rintro ⟨h1, h2⟩; exact ⟨(UInt8.toNat_inj.mp h1).symm, (UInt8.toNat_inj.mp h2).symm⟩
/-- an item, or what is wrong where there is none -/
def itemM (cls : List Nat → Option (BitVec 256)) (first : Bool) : List Nat → BR
  | [] => .bad 2
  | x :: r => item cls first x r
theorem itemV_form (n : Nat) (b : BR) : ∃ w0 w1 w2 w3 d e : Int, itemV n b = .tuple #[.agg #[.int .u64 w0, .int .u64 w1, .int .u64 w2, .int .u64 w3], .int .i64 d, .int .i64 e] := by
  cases b with
  | bad e => exact ⟨0, 0, 0, 0, 0, e, rfl⟩
  | ok t rest => exact ⟨_, _, _, _, _, _, rfl⟩
theorem setOf_one' (c : Nat) : setOf [c] = oneByte c := rfl
theorem lenCons (x : Nat) (r : List Nat) : (x :: r).length = r.length + 1 := rfl
theorem range_eq (x y : Nat) : setOf (upTo x y) = setOf (upTo x y) := rfl

set_option maxHeartbeats 2000000 in
theorem item_q (s : ByteArray) (k : Nat) (first : Bool) (q : List Nat) (a : Int) (ha : a = (k : Int)) (hq : (nats s).drop k = q) (hk : k ≤ s.size) (hs : s.size < 4294967281) (w : World) (hm : MaxAt w) :
    Calls Tryz.prog 122 #[.string s, .int .i64 a, .bool first] w fun e w' => e = .returned (itemV s.size (itemM cls first q)) ∧ Below w.heap.size w w' := by
  subst ha
  have hx : nats (s.extract k s.size) = q := by rw [nats_extract, hq]
  have hlen : k + q.length = s.size := by rw [← hq, List.length_drop, nats_length]; omega
  have hp := preB_two _ q hx
  have hsin := sinB_q hq k rfl
  have hk0 : (k : Int) ≤ s.size := by omega
  have hk2 : (k : Int).toNat = k := by omega
  have hkb : k < 4294967281 := by omega
  clear hx
  cases q with
  | nil =>
    rw [decide_eq_false (by simp)] at hp
    rw [show singleM [] = (0, 2) from rfl] at hsin
    rw [show itemM cls first [] = .bad 2 from rfl, itemV_bad]
    clear hq hlen
    go_enter Tryz.func122, Tryz.ntmps122
    go_wp2_with (first
      | (go_at_call 100; refine (pre_b _ _ _).mono ?_; rintro e w1 ⟨rfl, rfl⟩)
      | (go_at_call 133; refine (single_b s _ (by omega) (by omega) _).mono ?_; rintro e w1 ⟨rfl, rfl⟩)
      | (go_at_call 118; refine (has_b s _ _ (by omega) (by omega) _).mono ?_; rintro e w1 ⟨rfl, rfl⟩))
    refine bodyPost_ret (v := .tuple #[.agg #[.int .u64 0, .int .u64 0, .int .u64 0, .int .u64 0], .int .i64 0, .int .i64 2]) (by simp [results, Tryz.results122, go_sem]) rfl ⟨rfl, ?_⟩
    repeat (first | exact Below.refl _ _ | refine Below.drew ?_ | refine Below.alloc ?_ (by simp; try omega) _ | refine Below.setCell ?_ (by simp; try omega) _)
  | cons x r =>
    show Calls _ _ _ _ fun e w' => e = .returned (itemV s.size (item cls first x r)) ∧ _
    rw [lenCons] at hlen
    have hxb := (nats_cons hq).2.2.1
    have hr1 := (nats_cons hq).2.2.2
    clear hq
    by_cases ca : x = 91 ∧ r.head? = some 58
    · obtain ⟨rfl, ca⟩ := ca
      obtain ⟨r', rfl⟩ := head_cons ca
      rw [decide_eq_true (by simp)] at hp
      have hr2 := (nats_cons hr1).2.2.2
      have hit : item cls first 91 (58 :: r') = classItem cls r' := by simp [item]
      rw [hit]
      have hn := named_q s k r' k rfl hr2 (by simp at hlen; omega) hs
      obtain ⟨v0, v1, v2, v3, d, e, hV⟩ := itemV_form s.size (classItem cls r')
      rw [hV] at hn ⊢
      clear hr1 hr2 hlen hit ca hsin hV
      go_enter Tryz.func122, Tryz.ntmps122
      go_wp2_with (first
        | (go_at_call 100; refine (pre_b _ _ _).mono ?_; rintro e w1 ⟨rfl, rfl⟩))
      refine (hn _ (maxAt_below hm ((Below.refl _ _).alloc (Nat.le_refl _) _))).mono ?_
      rintro e w1 ⟨rfl, hb1⟩
      have c1 : ∀ o, w1.cell? ⟨w.heap.size, o, none⟩ = _ := fun o => hb1.cell (p := ⟨w.heap.size, o, none⟩) (by simp; try omega)
      have f1 : ∀ o, w1.frozen? ⟨w.heap.size, o, none⟩ = _ := fun o => hb1.frozen (p := ⟨w.heap.size, o, none⟩) (by simp; try omega)
      have hz1 : w.heap.size < w1.heap.size := by have := hb1.size; simp at this; omega
      have B1 : Below w.heap.size w w1 := ((Below.refl _ _).alloc (Nat.le_refl _) _).trans (hb1.mono (by simp))
      clear hb1
      go_wp2_with fail
      refine bodyPost_ret (v := .tuple #[.agg #[.int .u64 v0, .int .u64 v1, .int .u64 v2, .int .u64 v3], .int .i64 d, .int .i64 e]) (by simp [results, Tryz.results122, go_sem, c1]) rfl ⟨rfl, ?_⟩
      iterate 4 (refine Below.setCell ?_ (by simp) _)
      exact B1
    · rw [decide_eq_false (by simpa using ca)] at hp
      by_cases cb : x = 91 ∧ (r.head? = some 46 ∨ r.head? = some 61)
      · have hit : item cls first x r = .bad 3 := by unfold item; rw [if_pos cb]
        rw [hit, itemV_bad]
        rw [show singleM (x :: r) = (0, 3) from by simp only [singleM]; rw [if_pos cb.1, if_pos cb.2]] at hsin
        clear hr1 hlen hit ca cb
        go_enter Tryz.func122, Tryz.ntmps122
        go_wp2_with (first
          | (go_at_call 100; refine (pre_b _ _ _).mono ?_; rintro e w1 ⟨rfl, rfl⟩)
          | (go_at_call 133; refine (single_b s _ (by omega) (by omega) _).mono ?_; rintro e w1 ⟨rfl, rfl⟩)
          | (go_at_call 118; refine (has_b s _ _ (by omega) (by omega) _).mono ?_; rintro e w1 ⟨rfl, rfl⟩))
        refine bodyPost_ret (v := .tuple #[.agg #[.int .u64 0, .int .u64 0, .int .u64 0, .int .u64 0], .int .i64 0, .int .i64 3]) (by simp [results, Tryz.results122, go_sem]) rfl ⟨rfl, ?_⟩
        repeat (first | exact Below.refl _ _ | refine Below.drew ?_ | refine Below.alloc ?_ (by simp; try omega) _ | refine Below.setCell ?_ (by simp; try omega) _)
      · rw [show singleM (x :: r) = (x, 0) from by
          simp only [singleM]
          by_cases h91 : x = 91
          · rw [if_pos h91, if_neg (fun h => cb ⟨h91, h⟩), if_neg (fun h => ca ⟨h91, h⟩), h91]
          · rw [if_neg h91]] at hsin
        have e93 := hasB_q hr1 (k + 1) (by omega) 93 93 rfl
        have e45 := hasB_q hr1 (k + 1) (by omega) 45 45 rfl
        by_cases cc : x = 45 ∧ first = false ∧ r.head? ≠ some 93
        · have hit : item cls first x r = .bad 2 := by unfold item; rw [if_neg cb, if_neg ca, if_pos cc]
          rw [hit, itemV_bad]
          obtain ⟨rfl, rfl, c93⟩ := cc
          rw [decide_eq_false c93] at e93
          clear hr1 hlen hit ca cb c93 e45
          go_enter Tryz.func122, Tryz.ntmps122
          go_wp2_with (first
            | (go_at_call 100; refine (pre_b _ _ _).mono ?_; rintro e w1 ⟨rfl, rfl⟩)
            | (go_at_call 133; refine (single_b s _ (by omega) (by omega) _).mono ?_; rintro e w1 ⟨rfl, rfl⟩)
            | (go_at_call 118; refine (has_b s _ _ (by omega) (by omega) _).mono ?_; rintro e w1 ⟨rfl, rfl⟩))
          refine bodyPost_ret (v := .tuple #[.agg #[.int .u64 0, .int .u64 0, .int .u64 0, .int .u64 0], .int .i64 0, .int .i64 2]) (by simp [results, Tryz.results122, go_sem]) rfl ⟨rfl, ?_⟩
          repeat (first | exact Below.refl _ _ | refine Below.drew ?_ | refine Below.alloc ?_ (by simp; try omega) _ | refine Below.setCell ?_ (by simp; try omega) _)
        · have hit : item cls first x r = rangeOf x r := by unfold item; rw [if_neg cb, if_neg ca, if_neg cc]
          rw [hit]
          clear hit ca cb
          have hof := fun g n cap w => of_any g n cap [x] w
          rw [setOf_one'] at hof
          have hby := fun g cap w h => hof (some ⟨g, 0, none⟩) 1 cap w h
          have hways : (x ≠ 45) ∨ (x = 45 ∧ first = true) ∨ (x = 45 ∧ first = false ∧ r.head? = some 93) := by
            by_cases h1 : x = 45
            · cases first with
              | true => exact .inr (.inl ⟨h1, rfl⟩)
              | false =>
                refine .inr (.inr ⟨h1, rfl, ?_⟩)
                by_cases h3 : r.head? = some 93
                · exact h3
                · exact absurd ⟨h1, rfl, h3⟩ cc
            · exact .inl h1
          clear cc
          by_cases cd : r.head? = some 45
          · obtain ⟨r1, rfl⟩ := head_cons cd
            rw [decide_eq_true cd] at e45
            rw [decide_eq_false (by simp)] at e93
            rw [lenCons] at hlen
            have hr2 := (nats_cons hr1).2.2.2
            rw [Nat.add_assoc] at hr2
            have f93 := hasB_q hr2 (k + 2) (by omega) 93 93 rfl
            have hways2 : (((x : Int) == 45) = false) ∨ (x = 45 ∧ first = true) := by
              rcases hways with h | h | h
              · left; rw [beq_eq_false_iff_ne]; omega
              · exact .inr h
              · obtain ⟨_, _, h⟩ := h; injection h with h; omega
            clear cd hways
            by_cases ce : r1.head? = some 93
            · obtain ⟨r2, rfl⟩ := head_cons ce
              rw [decide_eq_true ce] at f93
              have hit : rangeOf x (45 :: 93 :: r2) = .ok (oneByte x) (45 :: 93 :: r2) := by simp [rangeOf]
              rw [hit, itemV_ok _ _ _ (k + 1) (by simp only [lenCons] at hlen ⊢; omega)]
              generalize oneByte x = S at *
              clear hlen hr1 hr2 hit ce
              rcases hways2 with hx45 | ⟨rfl, rfl⟩
              all_goals
                go_enter Tryz.func122, Tryz.ntmps122
                go_wp2_with (first
                  | (go_at_call 100; refine (pre_b _ _ _).mono ?_; rintro e w1 ⟨rfl, rfl⟩)
                  | (go_at_call 133; refine (single_b s _ (by omega) (by omega) _).mono ?_; rintro e w1 ⟨rfl, rfl⟩)
                  | (go_at_call 118; refine (has_b s _ _ (by omega) (by omega) _).mono ?_; rintro e w1 ⟨rfl, rfl⟩))
                refine (hby _ _ _ (bytesAt_new [_] (by intro z hz; rw [List.mem_singleton] at hz; omega) (by simp [maxLen]) rfl (by simp) rfl (Nat.le_refl 1))).mono ?_
                rintro e w1 ⟨rfl, hb1⟩
                have c1 : ∀ o, w1.cell? ⟨w.heap.size, o, none⟩ = _ := fun o => hb1.cell (p := ⟨w.heap.size, o, none⟩) (by simp; try omega)
                have f1 : ∀ o, w1.frozen? ⟨w.heap.size, o, none⟩ = _ := fun o => hb1.frozen (p := ⟨w.heap.size, o, none⟩) (by simp; try omega)
                have hz1 : w.heap.size < w1.heap.size := by have := hb1.size; simp at this; omega
                have B1 : Below w.heap.size w w1 := (((Below.refl _ _).alloc (Nat.le_refl _) _).alloc (by simp) _).trans (hb1.mono (by simp; omega))
                clear hb1
                go_wp2_with fail
                refine bodyPost_ret (v := .tuple #[SV S, .int .i64 (k + 1 : Nat), .int .i64 0]) (by simp [results, Tryz.results122, go_sem, c1]) rfl ⟨rfl, ?_⟩
                iterate 4 (refine Below.setCell ?_ (by simp) _)
                exact B1
            · rw [decide_eq_false ce] at f93
              have hsin2 := sinB_q hr2 (k + 2) (by omega)
              clear hof hby
              cases r1 with
              | nil =>
                have hit : rangeOf x [45] = .bad 2 := rfl
                rw [hit, itemV_bad]
                rw [show singleM [] = (0, 2) from rfl] at hsin2
                clear hlen hr1 hr2 hit ce
                rcases hways2 with hx45 | ⟨rfl, rfl⟩
                all_goals
                  go_enter Tryz.func122, Tryz.ntmps122
                  go_wp2_with (first
                    | (go_at_call 100; refine (pre_b _ _ _).mono ?_; rintro e w1 ⟨rfl, rfl⟩)
                    | (go_at_call 133; refine (single_b s _ (by omega) (by omega) _).mono ?_; rintro e w1 ⟨rfl, rfl⟩)
                    | (go_at_call 118; refine (has_b s _ _ (by omega) (by omega) _).mono ?_; rintro e w1 ⟨rfl, rfl⟩))
                  refine bodyPost_ret (v := .tuple #[.agg #[.int .u64 0, .int .u64 0, .int .u64 0, .int .u64 0], .int .i64 0, .int .i64 2]) (by simp [results, Tryz.results122, go_sem]) rfl ⟨rfl, ?_⟩
                  repeat (first | exact Below.refl _ _ | refine Below.drew ?_ | refine Below.alloc ?_ (by simp; try omega) _ | refine Below.setCell ?_ (by simp; try omega) _)
              | cons y r2 =>
                have hyb := (nats_cons hr2).2.2.1
                have hy93 : y ≠ 93 := fun h => ce (by rw [h]; rfl)
                rw [lenCons] at hlen
                by_cases cf : y = 91 ∧ (r2.head? = some 46 ∨ r2.head? = some 61)
                · have hit : rangeOf x (45 :: y :: r2) = .bad 3 := by simp only [rangeOf]; rw [if_neg hy93, if_pos cf]
                  rw [hit, itemV_bad]
                  rw [show singleM (y :: r2) = (0, 3) from by simp only [singleM]; rw [if_pos cf.1, if_pos cf.2]] at hsin2
                  clear hlen hr1 hr2 hit ce cf hy93
                  rcases hways2 with hx45 | ⟨rfl, rfl⟩
                  all_goals
                    go_enter Tryz.func122, Tryz.ntmps122
                    go_wp2_with (first
                      | (go_at_call 100; refine (pre_b _ _ _).mono ?_; rintro e w1 ⟨rfl, rfl⟩)
                      | (go_at_call 133; refine (single_b s _ (by omega) (by omega) _).mono ?_; rintro e w1 ⟨rfl, rfl⟩)
                      | (go_at_call 118; refine (has_b s _ _ (by omega) (by omega) _).mono ?_; rintro e w1 ⟨rfl, rfl⟩))
                    refine bodyPost_ret (v := .tuple #[.agg #[.int .u64 0, .int .u64 0, .int .u64 0, .int .u64 0], .int .i64 0, .int .i64 3]) (by simp [results, Tryz.results122, go_sem]) rfl ⟨rfl, ?_⟩
                    repeat (first | exact Below.refl _ _ | refine Below.drew ?_ | refine Below.alloc ?_ (by simp; try omega) _ | refine Below.setCell ?_ (by simp; try omega) _)
                · by_cases cg : y = 91 ∧ r2.head? = some 58
                  · have hit : rangeOf x (45 :: y :: r2) = .bad 2 := by simp only [rangeOf]; rw [if_neg hy93, if_neg cf, if_pos (Or.inl cg)]
                    rw [hit, itemV_bad]
                    rw [show singleM (y :: r2) = (0, 2) from by simp only [singleM]; rw [if_pos cg.1, if_neg (fun h => cf ⟨cg.1, h⟩), if_pos cg.2]] at hsin2
                    clear hlen hr1 hr2 hit ce cf cg hy93
                    rcases hways2 with hx45 | ⟨rfl, rfl⟩
                    all_goals
                      go_enter Tryz.func122, Tryz.ntmps122
                      go_wp2_with (first
                        | (go_at_call 100; refine (pre_b _ _ _).mono ?_; rintro e w1 ⟨rfl, rfl⟩)
                        | (go_at_call 133; refine (single_b s _ (by omega) (by omega) _).mono ?_; rintro e w1 ⟨rfl, rfl⟩)
                        | (go_at_call 118; refine (has_b s _ _ (by omega) (by omega) _).mono ?_; rintro e w1 ⟨rfl, rfl⟩))
                      refine bodyPost_ret (v := .tuple #[.agg #[.int .u64 0, .int .u64 0, .int .u64 0, .int .u64 0], .int .i64 0, .int .i64 2]) (by simp [results, Tryz.results122, go_sem]) rfl ⟨rfl, ?_⟩
                      repeat (first | exact Below.refl _ _ | refine Below.drew ?_ | refine Below.alloc ?_ (by simp; try omega) _ | refine Below.setCell ?_ (by simp; try omega) _)
                  · rw [show singleM (y :: r2) = (y, 0) from by
                      simp only [singleM]
                      by_cases h91 : y = 91
                      · rw [if_pos h91, if_neg (fun h => cf ⟨h91, h⟩), if_neg (fun h => cg ⟨h91, h⟩), h91]
                      · rw [if_neg h91]] at hsin2
                    by_cases ch : y < x
                    · have hit : rangeOf x (45 :: y :: r2) = .bad 2 := by simp only [rangeOf]; rw [if_neg hy93, if_neg cf, if_pos (Or.inr ch)]
                      rw [hit, itemV_bad]
                      have hd : decide ((y : Int) < x) = true := by simp; omega
                      clear hlen hr1 hr2 hit ce cf cg hy93
                      rcases hways2 with hx45 | ⟨rfl, rfl⟩
                      all_goals
                        go_enter Tryz.func122, Tryz.ntmps122
                        go_wp2_with (first
                          | (go_at_call 100; refine (pre_b _ _ _).mono ?_; rintro e w1 ⟨rfl, rfl⟩)
                          | (go_at_call 133; refine (single_b s _ (by omega) (by omega) _).mono ?_; rintro e w1 ⟨rfl, rfl⟩)
                          | (go_at_call 118; refine (has_b s _ _ (by omega) (by omega) _).mono ?_; rintro e w1 ⟨rfl, rfl⟩))
                        refine bodyPost_ret (v := .tuple #[.agg #[.int .u64 0, .int .u64 0, .int .u64 0, .int .u64 0], .int .i64 0, .int .i64 2]) (by simp [results, Tryz.results122, go_sem]) rfl ⟨rfl, ?_⟩
                        repeat (first | exact Below.refl _ _ | refine Below.drew ?_ | refine Below.alloc ?_ (by simp; try omega) _ | refine Below.setCell ?_ (by simp; try omega) _)
                    · have hit : rangeOf x (45 :: y :: r2) = .ok (setOf (upTo x y)) r2 := by
                        simp only [rangeOf]
                        rw [if_neg hy93, if_neg cf, if_neg (fun h => h.elim cg ch)]
                      rw [hit, itemV_ok _ _ _ (k + 3) (by omega)]
                      have hd : decide ((y : Int) < x) = false := by simp; omega
                      have hra := range_any x y hxb hyb
                      generalize setOf (upTo x y) = S at *
                      clear hlen hr1 hr2 hit ce cf cg hy93
                      rcases hways2 with hx45 | ⟨rfl, rfl⟩
                      all_goals
                        go_enter Tryz.func122, Tryz.ntmps122
                        go_wp2_with (first
                          | (go_at_call 100; refine (pre_b _ _ _).mono ?_; rintro e w1 ⟨rfl, rfl⟩)
                          | (go_at_call 133; refine (single_b s _ (by omega) (by omega) _).mono ?_; rintro e w1 ⟨rfl, rfl⟩)
                          | (go_at_call 118; refine (has_b s _ _ (by omega) (by omega) _).mono ?_; rintro e w1 ⟨rfl, rfl⟩))
                        refine (hra _).mono ?_
                        rintro e w1 ⟨rfl, hb1⟩
                        have c1 : ∀ o, w1.cell? ⟨w.heap.size, o, none⟩ = _ := fun o => hb1.cell (p := ⟨w.heap.size, o, none⟩) (by simp; try omega)
                        have f1 : ∀ o, w1.frozen? ⟨w.heap.size, o, none⟩ = _ := fun o => hb1.frozen (p := ⟨w.heap.size, o, none⟩) (by simp; try omega)
                        have hz1 : w.heap.size < w1.heap.size := by have := hb1.size; simp at this; omega
                        have B1 : Below w.heap.size w w1 := ((Below.refl _ _).alloc (Nat.le_refl _) _).trans (hb1.mono (by simp))
                        clear hb1
                        go_wp2_with fail
                        refine bodyPost_ret (v := .tuple #[SV S, .int .i64 (k + 3 : Nat), .int .i64 0]) (by simp [results, Tryz.results122, go_sem, c1]) rfl ⟨rfl, ?_⟩
                        iterate 4 (refine Below.setCell ?_ (by simp) _)
                        exact B1
          · rw [decide_eq_false cd] at e45
            have hit : rangeOf x r = .ok (oneByte x) r := by
              cases r with
              | nil => rfl
              | cons c t => exact rangeOf_other x c t (fun h => cd (by rw [h]; rfl))
            rw [hit, itemV_ok _ _ _ (k + 1) (by omega)]
            generalize oneByte x = S at *
            have hways2 : (((x : Int) == 45) = false) ∨ (x = 45 ∧ first = true) ∨ (x = 45 ∧ first = false ∧ r.head? = some 93) := by
              rcases hways with h | h
              · left; rw [beq_eq_false_iff_ne]; omega
              · exact .inr h
            clear hlen hr1 hit cd hways
            have hw93 : first = false → x = 45 → hasB s (k + 1) 93 = true := by
              intro h1 h2
              rcases hways2 with h | h | h
              · rw [beq_eq_false_iff_ne] at h; omega
              · rw [h.2] at h1; cases h1
              · rw [e93, decide_eq_true h.2.2]
            clear e93
            rcases hways2 with hx45 | ⟨rfl, rfl⟩ | ⟨rfl, rfl, h93⟩
            case inr.inr =>
              have e93 := hw93 rfl rfl
              clear hw93 h93

              go_enter Tryz.func122, Tryz.ntmps122
              go_wp2_with (first
                | (go_at_call 100; refine (pre_b _ _ _).mono ?_; rintro e w1 ⟨rfl, rfl⟩)
                | (go_at_call 133; refine (single_b s _ (by omega) (by omega) _).mono ?_; rintro e w1 ⟨rfl, rfl⟩)
                | (go_at_call 118; refine (has_b s _ _ (by omega) (by omega) _).mono ?_; rintro e w1 ⟨rfl, rfl⟩))
              refine (hby _ _ _ (bytesAt_new [_] (by intro z hz; rw [List.mem_singleton] at hz; omega) (by simp [maxLen]) rfl (by simp) rfl (Nat.le_refl 1))).mono ?_
              rintro e w1 ⟨rfl, hb1⟩
              have c1 : ∀ o, w1.cell? ⟨w.heap.size, o, none⟩ = _ := fun o => hb1.cell (p := ⟨w.heap.size, o, none⟩) (by simp; try omega)
              have f1 : ∀ o, w1.frozen? ⟨w.heap.size, o, none⟩ = _ := fun o => hb1.frozen (p := ⟨w.heap.size, o, none⟩) (by simp; try omega)
              have hz1 : w.heap.size < w1.heap.size := by have := hb1.size; simp at this; omega
              have B1 : Below w.heap.size w w1 := (((Below.refl _ _).alloc (Nat.le_refl _) _).alloc (by simp) _).trans (hb1.mono (by simp; omega))
              clear hb1
              go_wp2_with fail
              refine bodyPost_ret (v := .tuple #[SV S, .int .i64 (k + 1 : Nat), .int .i64 0]) (by simp [results, Tryz.results122, go_sem, c1]) rfl ⟨rfl, ?_⟩
              iterate 4 (refine Below.setCell ?_ (by simp) _)
              exact B1
            all_goals
              clear hw93
              go_enter Tryz.func122, Tryz.ntmps122
              go_wp2_with (first
                | (go_at_call 100; refine (pre_b _ _ _).mono ?_; rintro e w1 ⟨rfl, rfl⟩)
                | (go_at_call 133; refine (single_b s _ (by omega) (by omega) _).mono ?_; rintro e w1 ⟨rfl, rfl⟩)
                | (go_at_call 118; refine (has_b s _ _ (by omega) (by omega) _).mono ?_; rintro e w1 ⟨rfl, rfl⟩))
              refine (hby _ _ _ (bytesAt_new [_] (by intro z hz; rw [List.mem_singleton] at hz; omega) (by simp [maxLen]) rfl (by simp) rfl (Nat.le_refl 1))).mono ?_
              rintro e w1 ⟨rfl, hb1⟩
              have c1 : ∀ o, w1.cell? ⟨w.heap.size, o, none⟩ = _ := fun o => hb1.cell (p := ⟨w.heap.size, o, none⟩) (by simp; try omega)
              have f1 : ∀ o, w1.frozen? ⟨w.heap.size, o, none⟩ = _ := fun o => hb1.frozen (p := ⟨w.heap.size, o, none⟩) (by simp; try omega)
              have hz1 : w.heap.size < w1.heap.size := by have := hb1.size; simp at this; omega
              have B1 : Below w.heap.size w w1 := (((Below.refl _ _).alloc (Nat.le_refl _) _).alloc (by simp) _).trans (hb1.mono (by simp; omega))
              clear hb1
              go_wp2_with fail
              refine bodyPost_ret (v := .tuple #[SV S, .int .i64 (k + 1 : Nat), .int .i64 0]) (by simp [results, Tryz.results122, go_sem, c1]) rfl ⟨rfl, ?_⟩
              iterate 4 (refine Below.setCell ?_ (by simp) _)
              exact B1
end Go.Proofs.YtlgpbgcheeaalaaGreatDoor
/-! The walk of token's expression: a whole bracket. -/
namespace Go.Proofs.YtlgpbgcheeaalaaGreatDoor
set_option maxRecDepth 100000
open Go.RowKit
theorem has_b' (s : ByteArray) (a c : Int) (ha : 0 ≤ a) (hc : 0 ≤ c) (w : World) : Calls Tryz.prog 118 #[.string s, .int .i64 a, .int .u8 c] w fun e w' => e = .returned (.bool (hasB s a c)) ∧ w = w' :=
  (has_b s a c ha hc w).mono fun _ _ ⟨h1, h2⟩ => ⟨h1, h2.symm⟩
theorem Only.frozen {b : Nat} {w w' : World} (h : Only b w w') {a : Addr} (ha : a.block ≠ b) : w'.frozen? a = w.frozen? a := World.frozen?_of_block (h.block a.block ha)
theorem elems_none (s : BitVec 256) : (elems s).length = 0 ↔ s = 0 := by
  constructor
  · intro h
    have h0 : elems s = [] := List.length_eq_zero_iff.mp h
    apply BitVec.eq_of_getLsbD_eq
    intro i hi
    cases hb : s.getLsbD i with
    | false => simp
    | true =>
      have := (mem_elems s i).mpr ⟨hi, hb⟩
      rw [h0] at this; cases this
  · rintro rfl
    rw [List.length_eq_zero_iff]
    apply List.eq_nil_iff_forall_not_mem.mpr
    intro x hx
    have := ((mem_elems _ x).mp hx).2
    simp at this
theorem items_fuel (cls : List Nat → Option (BitVec 256)) : ∀ (f g : Nat) (first : Bool) (s : BitVec 256) (q : List Nat), q.length < f → q.length < g → items cls f first s q = items cls g first s q
  | 0, _, _, _, _, h, _ => by omega
  | _ + 1, 0, _, _, _, _, h => by omega
  | f + 1, g + 1, _, _, [], _, _ => rfl
  | f + 1, g + 1, first, s, x :: r, h, h' => by
    unfold items
    by_cases hc : x = 93 ∧ first = false
    · rw [if_pos hc, if_pos hc]
    · rw [if_neg hc, if_neg hc]
      cases he : item cls first x r with
      | bad e => rfl
      | ok u rest =>
        have := (item_suf cls first x r u rest he).length_le
        simp only [List.length_cons] at h h'
        exact items_fuel cls f g false _ rest (by omega) (by omega)
/-- what comes of the items: the complement, and that it holds a byte -/
def closeB (c : Bool) : BR → BR
  | .bad e => .bad e
  | .ok s rest => if (if c then ~~~s else s) = 0 then .bad 2 else .ok (if c then ~~~s else s) rest
theorem bracket_not (q : List Nat) : bracket cls (94 :: q) = closeB true (items cls (q.length + 1) true 0 q) := by
  unfold bracket closeB
  simp only [List.head?_cons, List.tail_cons, if_true]
  rw [items_fuel cls ((94 :: q).length + 1) (q.length + 1) true 0 q (by simp; omega) (by omega)]
  all_goals (cases items cls (q.length + 1) true 0 q <;> rfl)
theorem bracket_plain (q : List Nat) (h : q.head? ≠ some 94) : bracket cls q = closeB false (items cls (q.length + 1) true 0 q) := by
  unfold bracket closeB
  simp only [if_neg h]
  cases items cls (q.length + 1) true 0 q <;> rfl
theorem items_bad {f : Nat} {first : Bool} {s : BitVec 256} {r : List Nat} (hf : r.length < f) (hc : ¬ (r.head? = some 93 ∧ first = false)) {e : Nat} (h : itemM cls first r = .bad e) : items cls f first s r = .bad e := by
  cases f with
  | zero => omega
  | succ f =>
    cases r with
    | nil => unfold itemM at h; unfold items; injection h with h; rw [h]
    | cons x r =>
      have h' : item cls first x r = .bad e := h
      unfold items
      rw [if_neg (fun hx => hc ⟨by rw [hx.1]; rfl, hx.2⟩), h']
theorem items_ok {f : Nat} {first : Bool} {s : BitVec 256} {r : List Nat} (hf : r.length < f) (hc : ¬ (r.head? = some 93 ∧ first = false)) {t : BitVec 256} {rest : List Nat} (h : itemM cls first r = .ok t rest) :
    items cls f first s r = items cls (f - 1) false (s ||| t) rest ∧ rest <:+ r ∧ rest.length < r.length := by
  cases f with
  | zero => omega
  | succ f =>
    cases r with
    | nil => cases h
    | cons x r =>
      have h' : item cls first x r = .ok t rest := h
      have hs := item_suf cls first x r t rest h'
      refine ⟨?_, hs.trans (List.suffix_cons _ _), by have := hs.length_le; simp; omega⟩
      conv => lhs; unfold items
      rw [if_neg (fun hx => hc ⟨by rw [hx.1]; rfl, hx.2⟩), h']
      rfl
theorem items_end {f : Nat} {s : BitVec 256} {r : List Nat} (hf : (93 :: r).length < f) : items cls f false s (93 :: r) = .ok s r := by
  cases f with
  | zero => simp at hf
  | succ f => unfold items; rw [if_pos ⟨rfl, rfl⟩]
theorem suf_drop {l r rest : List Nat} {x : Nat} (h : l.drop x = r) (hs : rest <:+ r) (hx : x ≤ l.length) : l.drop (l.length - rest.length) = rest := by
  obtain ⟨p, hp⟩ := hs
  have hl : r.length = l.length - x := by rw [← h, List.length_drop]
  have hr : r.length = p.length + rest.length := by rw [← hp, List.length_append]
  rw [show l.length - rest.length = x + p.length from by omega, ← List.drop_drop, h, ← hp, List.drop_left]
theorem itemM_err {first : Bool} {r : List Nat} {e : Nat} (h : itemM cls first r = .bad e) : e ≠ 0 := by
  cases r with
  | nil => injection h with h; omega
  | cons x r =>
    have h' : item cls first x r = .bad e := h
    unfold item at h'
    split at h'
    · injection h' with h'; omega
    · split at h'
      · unfold classItem at h'
        split at h'
        · injection h' with h'; omega
        · split at h'
          · injection h' with h'; omega
          · cases h'
      · split at h'
        · injection h' with h'; omega
        · unfold rangeOf at h'
          split at h'
          · split at h'
            · cases h'
            · split at h'
              · injection h' with h'; omega
              · split at h'
                · injection h' with h'; omega
                · cases h'
          · injection h' with h'; omega
          · cases h'
/-- what the loop of expression holds -/
structure InItems (s : ByteArray) (w : World) (f : Nat) (R : BR) (x : Nat) (acc : BitVec 256) (r : List Nat) (fuel : Nat) (wr : World) : Prop where
  drop : (nats s).drop x = r
  le : x ≤ s.size
  ge : f ≤ x
  room : r.length < fuel
  eq : items cls fuel (decide (x = f)) acc r = R
  all : SetAt wr (w.heap.size + 1) acc
  below : Below (w.heap.size + 1) (w.alloc (.cells #[.int .i64 0, .int .u64 0, .int .u64 0, .int .u64 0, .int .u64 0, .int .i64 0, .int .i64 0, .int .i64 0] 135)) wr

set_option maxHeartbeats 4000000 in
theorem expr_false (s : ByteArray) (q : List Nat) (h94 : hasB s 1 94 = false) (hq : (nats s).drop 1 = q) (hf : 1 ≤ s.size) (hs : s.size < 4294967281) (w : World) (hm : MaxAt w) :
    Calls Tryz.prog 103 #[.string s] w fun e w' => e = .returned (nextV s.size (ofBR (closeB false (items cls (q.length + 1) true 0 q)))) ∧ Below w.heap.size w w' := by
  obtain ⟨R, hR⟩ : ∃ R, R = items cls (q.length + 1) true 0 q := ⟨_, rfl⟩
  rw [← hR]
  obtain ⟨P, hP⟩ : ∃ P, P = nextV s.size (ofBR (closeB false R)) := ⟨_, rfl⟩
  rw [← hP]
  have HR := Lib.hid hR
  have HQ := Lib.hid hq
  have HP := Lib.hid hP
  clear hR hq hP
  have hstart : ∀ w3, Below (w.heap.size + 1) (w.alloc (.cells #[.int .i64 0, .int .u64 0, .int .u64 0, .int .u64 0, .int .u64 0, .int .i64 0, .int .i64 0, .int .i64 0] 135)) w3 → SetAt w3 (w.heap.size + 1) 0 →
      InItems s w 1 R 1 0 q (q.length + 1) w3 := fun w3 h1 h2 => ⟨HQ.out, hf, Nat.le_refl _, by omega, by rw [HR.out]; rfl, h2, h1⟩
  go_enter Tryz.func103, Tryz.ntmps103
  go_wp2_with (first
    | (go_at_call 118; refine (has_b' s _ _ (by omega) (by omega) _).mono ?_; rintro e w1 ⟨rfl, rfl⟩))
  go_loopw [8] (fun i wr => ∃ x acc r fuel, i = .int .i64 (x : Nat) ∧ InItems s w 1 R x acc r fuel wr) (fun i _ => s.size + 1 - (intOf i).toNat)
  case atStart => exact ⟨1, 0, q, _, rfl, hstart _ ((Below.refl _ _).alloc (by simp) _) (by simpa using setAt_start (w.alloc _) _ rfl)⟩
  case round =>
    obtain ⟨x, acc, r, fuel, rfl, hI⟩ := hrel
    have hx := hI.le
    have hsz : w.heap.size + 1 < wr.heap.size := setAt_lt hI.all
    have hsz0 : w.heap.size < wr.heap.size := by omega
    have cr : ∀ o, wr.cell? ⟨w.heap.size, o, none⟩ = (w.alloc _).cell? ⟨w.heap.size, o, none⟩ := fun o => hI.below.cell (p := ⟨w.heap.size, o, none⟩) (Nat.lt_succ_self _)
    have fr : ∀ o, wr.frozen? ⟨w.heap.size, o, none⟩ = (w.alloc _).frozen? ⟨w.heap.size, o, none⟩ := fun o => hI.below.frozen (p := ⟨w.heap.size, o, none⟩) (Nat.lt_succ_self _)
    have hB0 : Below w.heap.size w wr := ((Below.refl _ _).alloc (Nat.le_refl _) _).trans (hI.below.mono (Nat.le_succ _))
    have hmr : MaxAt wr := maxAt_below hm hB0
    have hxb : x < 4294967281 := by omega
    by_cases hend : r.head? = some 93 ∧ x ≠ 1
    · -- the bracket is closed
      obtain ⟨h93, hxf⟩ := hend
      obtain ⟨r', rfl⟩ := head_cons h93
      have e93 := hasB_q hI.drop x rfl 93 93 rfl
      rw [decide_eq_true h93] at e93
      have hne : ((x : Int) == 1) = false := by rw [beq_eq_false_iff_ne]; omega
      have hRe : R = .ok acc r' := by
        have := hI.eq
        rw [decide_eq_false hxf, items_end hI.room] at this
        exact this.symm
      have hlen : x + (r'.length + 1) = s.size := by have := congrArg List.length hI.drop; rw [List.length_drop, nats_length, lenCons] at this; omega
      have hd : s.size - r'.length = x + 1 := by omega
      have hall := hI.all
      have hP := HP.out
      rw [hRe] at hP
      clear hRe hI h93 hxf hlen HR HQ HP hstart

      by_cases hz : acc = 0
      · rw [show closeB false (.ok acc r') = .bad 2 from by unfold closeB; exact if_pos hz] at hP
        rw [show ofBR (.bad 2) = .bad 2 from rfl, nextV_bad] at hP
        have hlen := (elems_none (acc)).mpr hz
        have HP := Lib.hid hP
        clear hz hd hP
        go_wp2_with (first
          | (go_at_call 118; refine (has_b' s _ _ (by omega) (by omega) _).mono ?_; rintro e w1 ⟨rfl, rfl⟩)
          | (refine wpList_load_set rfl _ rfl (w.heap.size + 1) 0 _ rfl hall.four ?_)
          | (refine wpList_load_set rfl _ rfl (w.heap.size + 1) 0 _ rfl hall5.four ?_)
          | (go_at_call 58; refine (len_any _ _).mono ?_; rintro e w5 ⟨rfl, hb5⟩; have c5 : ∀ o, w5.cell? ⟨w.heap.size, o, none⟩ = _ := fun o => (hb5.cell (p := ⟨w.heap.size, o, none⟩) hsz0).trans (cr o); have f5 : ∀ o, w5.frozen? ⟨w.heap.size, o, none⟩ = _ := fun o => (hb5.frozen (p := ⟨w.heap.size, o, none⟩) hsz0).trans (fr o); have B5 := hB0.trans (hb5.mono (by omega)); have hall5 := setAt_below hall hb5 (by omega))
          | fail)
        refine bodyPost_ret (v := .tuple #[tokV0 0 0 0, .int .i64 0, .int .i64 2]) (by simp [results, Tryz.results103, go_sem, c5]) rfl ⟨by rw [HP.out] <;> rfl, ?_⟩
        iterate 8 (refine Below.setCell ?_ (by simp) _)
        exact B5
      · rw [show closeB false (.ok acc r') = .ok (acc) r' from by unfold closeB; exact if_neg hz] at hP
        rw [show ofBR (.ok (acc) r') = .ok ⟨1, acc, 0, 0⟩ r' from rfl, nextV_ok1 _ _ _ _ hd] at hP
        have hlen : (((elems (acc)).length : Int) == 0) = false := by rw [beq_eq_false_iff_ne]; have : (elems (acc)).length ≠ 0 := fun h => hz ((elems_none _).mp h); omega
        have HP := Lib.hid hP
        clear hz hd hP
        go_wp2_with (first
          | (go_at_call 118; refine (has_b' s _ _ (by omega) (by omega) _).mono ?_; rintro e w1 ⟨rfl, rfl⟩)
          | (refine wpList_load_set rfl _ rfl (w.heap.size + 1) 0 _ rfl hall.four ?_)
          | (refine wpList_load_set rfl _ rfl (w.heap.size + 1) 0 _ rfl hall5.four ?_)
          | (go_at_call 58; refine (len_any _ _).mono ?_; rintro e w5 ⟨rfl, hb5⟩; have c5 : ∀ o, w5.cell? ⟨w.heap.size, o, none⟩ = _ := fun o => (hb5.cell (p := ⟨w.heap.size, o, none⟩) hsz0).trans (cr o); have f5 : ∀ o, w5.frozen? ⟨w.heap.size, o, none⟩ = _ := fun o => (hb5.frozen (p := ⟨w.heap.size, o, none⟩) hsz0).trans (fr o); have B5 := hB0.trans (hb5.mono (by omega)); have hall5 := setAt_below hall hb5 (by omega))
          | fail)
        refine bodyPost_ret (v := .tuple #[tokV1 (acc), .int .i64 (x + 1 : Nat), .int .i64 0]) (by simp [results, Tryz.results103, go_sem, c5]) rfl ⟨by rw [HP.out] <;> rfl, ?_⟩
        iterate 8 (refine Below.setCell ?_ (by simp) _)
        exact B5
    · -- a further item
      have hnot : ¬ (r.head? = some 93 ∧ decide (x = 1) = false) := fun h => hend ⟨h.1, by simpa using h.2⟩
      have hbad := fun e (hit : itemM cls (decide (x = 1)) r = .bad e) => (show R = .bad e from by rw [← hI.eq]; exact items_bad hI.room hnot hit)
      have hok := fun t rest (hit : itemM cls (decide (x = 1)) r = .ok t rest) => items_ok (s := acc) hI.room hnot hit
      by_cases h1 : x = 1
      · subst h1
        rw [decide_eq_true rfl] at hbad hok
        have hcall := item_q s 1 true r 1 rfl hI.drop hx hs
        cases hit : itemM cls true r with
        | bad e =>
          have hP := HP.out
          rw [hbad e hit, show ofBR (closeB false (.bad e)) = .bad e from rfl, nextV_bad] at hP
          have HP := Lib.hid hP
          have he0 : ((e : Int) != 0) = true := by
            have := itemM_err hit
            rw [bne_iff_ne]; omega
          rw [hit, itemV_bad] at hcall
          clear hI hP hstart HR HQ hend hnot hit hbad hok
          go_wp2_with (first
            | (go_at_call 118; refine (has_b' s _ _ (by omega) (by omega) _).mono ?_; rintro e w1 ⟨rfl, rfl⟩)
            | (go_at_call 122; refine (hcall _ hmr).mono ?_; rintro e w3 ⟨rfl, hb3⟩; have c3 : ∀ o, w3.cell? ⟨w.heap.size, o, none⟩ = _ := fun o => (hb3.cell (p := ⟨w.heap.size, o, none⟩) hsz0).trans (cr o); have f3 : ∀ o, w3.frozen? ⟨w.heap.size, o, none⟩ = _ := fun o => (hb3.frozen (p := ⟨w.heap.size, o, none⟩) hsz0).trans (fr o); have hz3 : w.heap.size < w3.heap.size := Nat.lt_of_lt_of_le hsz0 hb3.size; have hz3' : w.heap.size ≠ w3.heap.size := Nat.ne_of_lt hz3; have B3 : Below w.heap.size w w3 := hB0.trans (hb3.mono (Nat.le_of_lt hsz0)))
            | fail)
          refine bodyPost_ret (v := .tuple #[tokV0 0 0 0, .int .i64 0, .int .i64 e]) (by simp [results, Tryz.results103, go_sem, c3, cell_alloc_old, hz3]) rfl ⟨by rw [HP.out] <;> rfl, ?_⟩
          refine Below.alloc ?_ (by simp; omega) _
          iterate 8 (refine Below.setCell ?_ (by simp) _)
          exact B3
        | ok t rest =>
          obtain ⟨y, hy⟩ : ∃ y, y = s.size - rest.length := ⟨_, rfl⟩
          rw [hit, itemV_ok _ _ _ y hy.symm] at hcall
          obtain ⟨k1, k2, k3⟩ := hok t rest hit
          have hrl : r.length = s.size - 1 := by rw [← hI.drop, List.length_drop, nats_length]
          have hnew : ∀ w7, SetAt w7 (w.heap.size + 1) (acc ||| t) → Below (w.heap.size + 1) (w.alloc (.cells #[.int .i64 0, .int .u64 0, .int .u64 0, .int .u64 0, .int .u64 0, .int .i64 0, .int .i64 0, .int .i64 0] 135)) w7 →
              InItems s w 1 R y (acc ||| t) rest (fuel - 1) w7 := fun w7 g1 g2 =>
            ⟨by rw [hy]; have := suf_drop hI.drop k2 (by rw [nats_length]; exact hx); rw [nats_length] at this; exact this, by omega, by have := hI.ge; omega, by have := hI.room; omega, by
              have e1 := hI.eq
              rw [decide_eq_true rfl, k1] at e1
              rw [decide_eq_false (by have := hI.ge; omega)]; exact e1, g1, g2⟩
          have hmeas : s.size + 1 - y < s.size + 1 - 1 := by omega
          have hall := hI.all
          have hbel := hI.below
          have hyb : y < 4294967296 := by omega
          clear hI hstart HR HQ hend hnot hit hbad hok HP k1 k2 k3 hrl hy
          go_wp2_with (first
            | (go_at_call 118; refine (has_b' s _ _ (by omega) (by omega) _).mono ?_; rintro e w1 ⟨rfl, rfl⟩)
            | (go_at_call 122; refine (hcall _ hmr).mono ?_; rintro e w3 ⟨rfl, hb3⟩; have hall3 := setAt_below hall hb3 hsz; have hz3 : w.heap.size + 1 < w3.heap.size := Nat.lt_of_lt_of_le hsz hb3.size; have B3 := hbel.trans (hb3.mono (Nat.le_of_lt hsz)))
            | (refine wpList_store_set rfl _ _ rfl w3.heap.size 0 t rfl rfl (setAt_new _) ?_; intro w4 hs4 ho4; have hall4 := ho4.setAt (Nat.ne_of_lt hz3) (setAt_alloc hall3 _); have hz4 := ho4.size; have B4 := ho4.below (B3.alloc (Nat.le_of_lt hz3) _) (Nat.le_of_lt hz3); simp at hz4)
            | (refine wpList_load_set rfl _ rfl (w.heap.size + 1) 0 _ rfl hall4.four ?_)
            | (refine wpList_load_set rfl _ rfl w3.heap.size 0 _ rfl hs4.four ?_)
            | (go_at_call 123; refine (or_any _ _ _).mono ?_; rintro e w5 ⟨rfl, hb5⟩; have hall5 := setAt_below hall4 hb5 (by omega); have B5 := B4.trans (hb5.mono (by omega)))
            | (refine wpList_store_set rfl _ _ rfl (w.heap.size + 1) _ _ rfl rfl hall5 ?_; intro w6 hs6 ho6; have B6 := ho6.below B5 (Nat.le_refl _))
            | fail)
          go_roundw
          case rel => exact ⟨y, _, _, _, rfl, hnew _ hs6 B6⟩
          case measure => simp [intOf]; omega
      · rw [decide_eq_false h1] at hbad hok
        have hcall := item_q s x false r x rfl hI.drop hx hs
        have hne : ((x : Int) == 1) = false := by rw [beq_eq_false_iff_ne]; omega
        have e93 := hasB_q hI.drop x rfl 93 93 rfl
        rw [decide_eq_false (fun h => hend ⟨h, h1⟩)] at e93
        cases hit : itemM cls false r with
        | bad e =>
          have hP := HP.out
          rw [hbad e hit, show ofBR (closeB false (.bad e)) = .bad e from rfl, nextV_bad] at hP
          have HP := Lib.hid hP
          have he0 : ((e : Int) != 0) = true := by
            have := itemM_err hit
            rw [bne_iff_ne]; omega
          rw [hit, itemV_bad] at hcall
          clear hI hP hstart HR HQ hend hnot hit hbad hok h1
          go_wp2_with (first
            | (go_at_call 118; refine (has_b' s _ _ (by omega) (by omega) _).mono ?_; rintro e w1 ⟨rfl, rfl⟩)
            | (go_at_call 122; refine (hcall _ hmr).mono ?_; rintro e w3 ⟨rfl, hb3⟩; have c3 : ∀ o, w3.cell? ⟨w.heap.size, o, none⟩ = _ := fun o => (hb3.cell (p := ⟨w.heap.size, o, none⟩) hsz0).trans (cr o); have f3 : ∀ o, w3.frozen? ⟨w.heap.size, o, none⟩ = _ := fun o => (hb3.frozen (p := ⟨w.heap.size, o, none⟩) hsz0).trans (fr o); have hz3 : w.heap.size < w3.heap.size := Nat.lt_of_lt_of_le hsz0 hb3.size; have hz3' : w.heap.size ≠ w3.heap.size := Nat.ne_of_lt hz3; have B3 : Below w.heap.size w w3 := hB0.trans (hb3.mono (Nat.le_of_lt hsz0)))
            | fail)
          refine bodyPost_ret (v := .tuple #[tokV0 0 0 0, .int .i64 0, .int .i64 e]) (by simp [results, Tryz.results103, go_sem, c3, cell_alloc_old, hz3]) rfl ⟨by rw [HP.out] <;> rfl, ?_⟩
          refine Below.alloc ?_ (by simp; omega) _
          iterate 8 (refine Below.setCell ?_ (by simp) _)
          exact B3
        | ok t rest =>
          obtain ⟨y, hy⟩ : ∃ y, y = s.size - rest.length := ⟨_, rfl⟩
          rw [hit, itemV_ok _ _ _ y hy.symm] at hcall
          obtain ⟨k1, k2, k3⟩ := hok t rest hit
          have hrl : r.length = s.size - x := by rw [← hI.drop, List.length_drop, nats_length]
          have hnew : ∀ w7, SetAt w7 (w.heap.size + 1) (acc ||| t) → Below (w.heap.size + 1) (w.alloc (.cells #[.int .i64 0, .int .u64 0, .int .u64 0, .int .u64 0, .int .u64 0, .int .i64 0, .int .i64 0, .int .i64 0] 135)) w7 →
              InItems s w 1 R y (acc ||| t) rest (fuel - 1) w7 := fun w7 g1 g2 =>
            ⟨by rw [hy]; have := suf_drop hI.drop k2 (by rw [nats_length]; exact hx); rw [nats_length] at this; exact this, by omega, by have := hI.ge; omega, by have := hI.room; omega, by
              have e1 := hI.eq
              rw [decide_eq_false h1, k1] at e1
              rw [decide_eq_false (by have := hI.ge; omega)]; exact e1, g1, g2⟩
          have hmeas : s.size + 1 - y < s.size + 1 - x := by omega
          have hall := hI.all
          have hbel := hI.below
          have hyb : y < 4294967296 := by omega
          clear hI hstart HR HQ hend hnot hit hbad hok HP k1 k2 k3 hrl hy h1
          go_wp2_with (first
            | (go_at_call 118; refine (has_b' s _ _ (by omega) (by omega) _).mono ?_; rintro e w1 ⟨rfl, rfl⟩)
            | (go_at_call 122; refine (hcall _ hmr).mono ?_; rintro e w3 ⟨rfl, hb3⟩; have hall3 := setAt_below hall hb3 hsz; have hz3 : w.heap.size + 1 < w3.heap.size := Nat.lt_of_lt_of_le hsz hb3.size; have B3 := hbel.trans (hb3.mono (Nat.le_of_lt hsz)))
            | (refine wpList_store_set rfl _ _ rfl w3.heap.size 0 t rfl rfl (setAt_new _) ?_; intro w4 hs4 ho4; have hall4 := ho4.setAt (Nat.ne_of_lt hz3) (setAt_alloc hall3 _); have hz4 := ho4.size; have B4 := ho4.below (B3.alloc (Nat.le_of_lt hz3) _) (Nat.le_of_lt hz3); simp at hz4)
            | (refine wpList_load_set rfl _ rfl (w.heap.size + 1) 0 _ rfl hall4.four ?_)
            | (refine wpList_load_set rfl _ rfl w3.heap.size 0 _ rfl hs4.four ?_)
            | (go_at_call 123; refine (or_any _ _ _).mono ?_; rintro e w5 ⟨rfl, hb5⟩; have hall5 := setAt_below hall4 hb5 (by omega); have B5 := B4.trans (hb5.mono (by omega)))
            | (refine wpList_store_set rfl _ _ rfl (w.heap.size + 1) _ _ rfl rfl hall5 ?_; intro w6 hs6 ho6; have B6 := ho6.below B5 (Nat.le_refl _))
            | fail)
          go_roundw
          case rel => exact ⟨y, _, _, _, rfl, hnew _ hs6 B6⟩
          case measure => simp [intOf]; omega
set_option maxHeartbeats 4000000 in
theorem expr_true (s : ByteArray) (q : List Nat) (h94 : hasB s 1 94 = true) (hq : (nats s).drop 2 = q) (hf : 2 ≤ s.size) (hs : s.size < 4294967281) (w : World) (hm : MaxAt w) :
    Calls Tryz.prog 103 #[.string s] w fun e w' => e = .returned (nextV s.size (ofBR (closeB true (items cls (q.length + 1) true 0 q)))) ∧ Below w.heap.size w w' := by
  obtain ⟨R, hR⟩ : ∃ R, R = items cls (q.length + 1) true 0 q := ⟨_, rfl⟩
  rw [← hR]
  obtain ⟨P, hP⟩ : ∃ P, P = nextV s.size (ofBR (closeB true R)) := ⟨_, rfl⟩
  rw [← hP]
  have HR := Lib.hid hR
  have HQ := Lib.hid hq
  have HP := Lib.hid hP
  clear hR hq hP
  have hstart : ∀ w3, Below (w.heap.size + 1) (w.alloc (.cells #[.int .i64 0, .int .u64 0, .int .u64 0, .int .u64 0, .int .u64 0, .int .i64 0, .int .i64 0, .int .i64 0] 135)) w3 → SetAt w3 (w.heap.size + 1) 0 →
      InItems s w 2 R 2 0 q (q.length + 1) w3 := fun w3 h1 h2 => ⟨HQ.out, hf, Nat.le_refl _, by omega, by rw [HR.out]; rfl, h2, h1⟩
  go_enter Tryz.func103, Tryz.ntmps103
  go_wp2_with (first
    | (go_at_call 118; refine (has_b' s _ _ (by omega) (by omega) _).mono ?_; rintro e w1 ⟨rfl, rfl⟩))
  go_loopw [8] (fun i wr => ∃ x acc r fuel, i = .int .i64 (x : Nat) ∧ InItems s w 2 R x acc r fuel wr) (fun i _ => s.size + 1 - (intOf i).toNat)
  case atStart => exact ⟨2, 0, q, _, rfl, hstart _ ((Below.refl _ _).alloc (by simp) _) (by simpa using setAt_start (w.alloc _) _ rfl)⟩
  case round =>
    obtain ⟨x, acc, r, fuel, rfl, hI⟩ := hrel
    have hx := hI.le
    have hsz : w.heap.size + 1 < wr.heap.size := setAt_lt hI.all
    have hsz0 : w.heap.size < wr.heap.size := by omega
    have cr : ∀ o, wr.cell? ⟨w.heap.size, o, none⟩ = (w.alloc _).cell? ⟨w.heap.size, o, none⟩ := fun o => hI.below.cell (p := ⟨w.heap.size, o, none⟩) (Nat.lt_succ_self _)
    have fr : ∀ o, wr.frozen? ⟨w.heap.size, o, none⟩ = (w.alloc _).frozen? ⟨w.heap.size, o, none⟩ := fun o => hI.below.frozen (p := ⟨w.heap.size, o, none⟩) (Nat.lt_succ_self _)
    have hB0 : Below w.heap.size w wr := ((Below.refl _ _).alloc (Nat.le_refl _) _).trans (hI.below.mono (Nat.le_succ _))
    have hmr : MaxAt wr := maxAt_below hm hB0
    have hxb : x < 4294967281 := by omega
    by_cases hend : r.head? = some 93 ∧ x ≠ 2
    · -- the bracket is closed
      obtain ⟨h93, hxf⟩ := hend
      obtain ⟨r', rfl⟩ := head_cons h93
      have e93 := hasB_q hI.drop x rfl 93 93 rfl
      rw [decide_eq_true h93] at e93
      have hne : ((x : Int) == 2) = false := by rw [beq_eq_false_iff_ne]; omega
      have hRe : R = .ok acc r' := by
        have := hI.eq
        rw [decide_eq_false hxf, items_end hI.room] at this
        exact this.symm
      have hlen : x + (r'.length + 1) = s.size := by have := congrArg List.length hI.drop; rw [List.length_drop, nats_length, lenCons] at this; omega
      have hd : s.size - r'.length = x + 1 := by omega
      have hall := hI.all
      have hP := HP.out
      rw [hRe] at hP
      clear hRe hI h93 hxf hlen HR HQ HP hstart

      by_cases hz : ~~~acc = 0
      · rw [show closeB true (.ok acc r') = .bad 2 from by unfold closeB; exact if_pos hz] at hP
        rw [show ofBR (.bad 2) = .bad 2 from rfl, nextV_bad] at hP
        have hlen := (elems_none (~~~acc)).mpr hz
        have HP := Lib.hid hP
        clear hz hd hP
        go_wp2_with (first
          | (go_at_call 118; refine (has_b' s _ _ (by omega) (by omega) _).mono ?_; rintro e w1 ⟨rfl, rfl⟩)
          | (refine wpList_load_set rfl _ rfl (w.heap.size + 1) 0 _ rfl hall.four ?_)
          | (refine wpList_load_set rfl _ rfl (w.heap.size + 1) 0 _ rfl hs4.four ?_)
          | (refine wpList_load_set rfl _ rfl (w.heap.size + 1) 0 _ rfl hall5.four ?_)
          | (go_at_call 120; refine (not_any _ _).mono ?_; rintro e w3 ⟨rfl, hb3⟩; have hall3 := setAt_below hall hb3 hsz)
          | (refine wpList_store_set rfl _ _ rfl (w.heap.size + 1) _ _ rfl rfl hall3 ?_; intro w4 hs4 ho4; have hz4 : wr.heap.size ≤ w4.heap.size := by rw [ho4.size]; exact hb3.size
             have hz5 : w.heap.size < w4.heap.size := Nat.lt_of_lt_of_le hsz0 hz4
             have B4 : Below w.heap.size w w4 := ho4.below (hB0.trans (hb3.mono (by omega))) (by omega)
             have c4 : ∀ o, w4.cell? ⟨w.heap.size, o, none⟩ = _ := fun o => ((ho4.cell (a := ⟨w.heap.size, o, none⟩) (Nat.ne_of_lt (Nat.lt_succ_self _))).trans (hb3.cell (p := ⟨w.heap.size, o, none⟩) hsz0)).trans (cr o)
             have f4 : ∀ o, w4.frozen? ⟨w.heap.size, o, none⟩ = _ := fun o => ((ho4.frozen (a := ⟨w.heap.size, o, none⟩) (Nat.ne_of_lt (Nat.lt_succ_self _))).trans (hb3.frozen (p := ⟨w.heap.size, o, none⟩) hsz0)).trans (fr o))
          | (go_at_call 58; refine (len_any _ _).mono ?_; rintro e w5 ⟨rfl, hb5⟩; have c5 : ∀ o, w5.cell? ⟨w.heap.size, o, none⟩ = _ := fun o => (hb5.cell (p := ⟨w.heap.size, o, none⟩) hz5).trans (c4 o); have f5 : ∀ o, w5.frozen? ⟨w.heap.size, o, none⟩ = _ := fun o => (hb5.frozen (p := ⟨w.heap.size, o, none⟩) hz5).trans (f4 o); have B5 := B4.trans (hb5.mono (by omega)); have hall5 := setAt_below hs4 hb5 (by omega))
          | fail)
        refine bodyPost_ret (v := .tuple #[tokV0 0 0 0, .int .i64 0, .int .i64 2]) (by simp [results, Tryz.results103, go_sem, c5]) rfl ⟨by rw [HP.out] <;> rfl, ?_⟩
        iterate 8 (refine Below.setCell ?_ (by simp) _)
        exact B5
      · rw [show closeB true (.ok acc r') = .ok (~~~acc) r' from by unfold closeB; exact if_neg hz] at hP
        rw [show ofBR (.ok (~~~acc) r') = .ok ⟨1, ~~~acc, 0, 0⟩ r' from rfl, nextV_ok1 _ _ _ _ hd] at hP
        have hlen : (((elems (~~~acc)).length : Int) == 0) = false := by rw [beq_eq_false_iff_ne]; have : (elems (~~~acc)).length ≠ 0 := fun h => hz ((elems_none _).mp h); omega
        have HP := Lib.hid hP
        clear hz hd hP
        go_wp2_with (first
          | (go_at_call 118; refine (has_b' s _ _ (by omega) (by omega) _).mono ?_; rintro e w1 ⟨rfl, rfl⟩)
          | (refine wpList_load_set rfl _ rfl (w.heap.size + 1) 0 _ rfl hall.four ?_)
          | (refine wpList_load_set rfl _ rfl (w.heap.size + 1) 0 _ rfl hs4.four ?_)
          | (refine wpList_load_set rfl _ rfl (w.heap.size + 1) 0 _ rfl hall5.four ?_)
          | (go_at_call 120; refine (not_any _ _).mono ?_; rintro e w3 ⟨rfl, hb3⟩; have hall3 := setAt_below hall hb3 hsz)
          | (refine wpList_store_set rfl _ _ rfl (w.heap.size + 1) _ _ rfl rfl hall3 ?_; intro w4 hs4 ho4; have hz4 : wr.heap.size ≤ w4.heap.size := by rw [ho4.size]; exact hb3.size
             have hz5 : w.heap.size < w4.heap.size := Nat.lt_of_lt_of_le hsz0 hz4
             have B4 : Below w.heap.size w w4 := ho4.below (hB0.trans (hb3.mono (by omega))) (by omega)
             have c4 : ∀ o, w4.cell? ⟨w.heap.size, o, none⟩ = _ := fun o => ((ho4.cell (a := ⟨w.heap.size, o, none⟩) (Nat.ne_of_lt (Nat.lt_succ_self _))).trans (hb3.cell (p := ⟨w.heap.size, o, none⟩) hsz0)).trans (cr o)
             have f4 : ∀ o, w4.frozen? ⟨w.heap.size, o, none⟩ = _ := fun o => ((ho4.frozen (a := ⟨w.heap.size, o, none⟩) (Nat.ne_of_lt (Nat.lt_succ_self _))).trans (hb3.frozen (p := ⟨w.heap.size, o, none⟩) hsz0)).trans (fr o))
          | (go_at_call 58; refine (len_any _ _).mono ?_; rintro e w5 ⟨rfl, hb5⟩; have c5 : ∀ o, w5.cell? ⟨w.heap.size, o, none⟩ = _ := fun o => (hb5.cell (p := ⟨w.heap.size, o, none⟩) hz5).trans (c4 o); have f5 : ∀ o, w5.frozen? ⟨w.heap.size, o, none⟩ = _ := fun o => (hb5.frozen (p := ⟨w.heap.size, o, none⟩) hz5).trans (f4 o); have B5 := B4.trans (hb5.mono (by omega)); have hall5 := setAt_below hs4 hb5 (by omega))
          | fail)
        refine bodyPost_ret (v := .tuple #[tokV1 (~~~acc), .int .i64 (x + 1 : Nat), .int .i64 0]) (by simp [results, Tryz.results103, go_sem, c5]) rfl ⟨by rw [HP.out] <;> rfl, ?_⟩
        iterate 8 (refine Below.setCell ?_ (by simp) _)
        exact B5
    · -- a further item
      have hnot : ¬ (r.head? = some 93 ∧ decide (x = 2) = false) := fun h => hend ⟨h.1, by simpa using h.2⟩
      have hbad := fun e (hit : itemM cls (decide (x = 2)) r = .bad e) => (show R = .bad e from by rw [← hI.eq]; exact items_bad hI.room hnot hit)
      have hok := fun t rest (hit : itemM cls (decide (x = 2)) r = .ok t rest) => items_ok (s := acc) hI.room hnot hit
      by_cases h1 : x = 2
      · subst h1
        rw [decide_eq_true rfl] at hbad hok
        have hcall := item_q s 2 true r 2 rfl hI.drop hx hs
        cases hit : itemM cls true r with
        | bad e =>
          have hP := HP.out
          rw [hbad e hit, show ofBR (closeB true (.bad e)) = .bad e from rfl, nextV_bad] at hP
          have HP := Lib.hid hP
          have he0 : ((e : Int) != 0) = true := by
            have := itemM_err hit
            rw [bne_iff_ne]; omega
          rw [hit, itemV_bad] at hcall
          clear hI hP hstart HR HQ hend hnot hit hbad hok
          go_wp2_with (first
            | (go_at_call 118; refine (has_b' s _ _ (by omega) (by omega) _).mono ?_; rintro e w1 ⟨rfl, rfl⟩)
            | (go_at_call 122; refine (hcall _ hmr).mono ?_; rintro e w3 ⟨rfl, hb3⟩; have c3 : ∀ o, w3.cell? ⟨w.heap.size, o, none⟩ = _ := fun o => (hb3.cell (p := ⟨w.heap.size, o, none⟩) hsz0).trans (cr o); have f3 : ∀ o, w3.frozen? ⟨w.heap.size, o, none⟩ = _ := fun o => (hb3.frozen (p := ⟨w.heap.size, o, none⟩) hsz0).trans (fr o); have hz3 : w.heap.size < w3.heap.size := Nat.lt_of_lt_of_le hsz0 hb3.size; have hz3' : w.heap.size ≠ w3.heap.size := Nat.ne_of_lt hz3; have B3 : Below w.heap.size w w3 := hB0.trans (hb3.mono (Nat.le_of_lt hsz0)))
            | fail)
          refine bodyPost_ret (v := .tuple #[tokV0 0 0 0, .int .i64 0, .int .i64 e]) (by simp [results, Tryz.results103, go_sem, c3, cell_alloc_old, hz3]) rfl ⟨by rw [HP.out] <;> rfl, ?_⟩
          refine Below.alloc ?_ (by simp; omega) _
          iterate 8 (refine Below.setCell ?_ (by simp) _)
          exact B3
        | ok t rest =>
          obtain ⟨y, hy⟩ : ∃ y, y = s.size - rest.length := ⟨_, rfl⟩
          rw [hit, itemV_ok _ _ _ y hy.symm] at hcall
          obtain ⟨k1, k2, k3⟩ := hok t rest hit
          have hrl : r.length = s.size - 2 := by rw [← hI.drop, List.length_drop, nats_length]
          have hnew : ∀ w7, SetAt w7 (w.heap.size + 1) (acc ||| t) → Below (w.heap.size + 1) (w.alloc (.cells #[.int .i64 0, .int .u64 0, .int .u64 0, .int .u64 0, .int .u64 0, .int .i64 0, .int .i64 0, .int .i64 0] 135)) w7 →
              InItems s w 2 R y (acc ||| t) rest (fuel - 1) w7 := fun w7 g1 g2 =>
            ⟨by rw [hy]; have := suf_drop hI.drop k2 (by rw [nats_length]; exact hx); rw [nats_length] at this; exact this, by omega, by have := hI.ge; omega, by have := hI.room; omega, by
              have e1 := hI.eq
              rw [decide_eq_true rfl, k1] at e1
              rw [decide_eq_false (by have := hI.ge; omega)]; exact e1, g1, g2⟩
          have hmeas : s.size + 1 - y < s.size + 1 - 2 := by omega
          have hall := hI.all
          have hbel := hI.below
          have hyb : y < 4294967296 := by omega
          clear hI hstart HR HQ hend hnot hit hbad hok HP k1 k2 k3 hrl hy
          go_wp2_with (first
            | (go_at_call 118; refine (has_b' s _ _ (by omega) (by omega) _).mono ?_; rintro e w1 ⟨rfl, rfl⟩)
            | (go_at_call 122; refine (hcall _ hmr).mono ?_; rintro e w3 ⟨rfl, hb3⟩; have hall3 := setAt_below hall hb3 hsz; have hz3 : w.heap.size + 1 < w3.heap.size := Nat.lt_of_lt_of_le hsz hb3.size; have B3 := hbel.trans (hb3.mono (Nat.le_of_lt hsz)))
            | (refine wpList_store_set rfl _ _ rfl w3.heap.size 0 t rfl rfl (setAt_new _) ?_; intro w4 hs4 ho4; have hall4 := ho4.setAt (Nat.ne_of_lt hz3) (setAt_alloc hall3 _); have hz4 := ho4.size; have B4 := ho4.below (B3.alloc (Nat.le_of_lt hz3) _) (Nat.le_of_lt hz3); simp at hz4)
            | (refine wpList_load_set rfl _ rfl (w.heap.size + 1) 0 _ rfl hall4.four ?_)
            | (refine wpList_load_set rfl _ rfl w3.heap.size 0 _ rfl hs4.four ?_)
            | (go_at_call 123; refine (or_any _ _ _).mono ?_; rintro e w5 ⟨rfl, hb5⟩; have hall5 := setAt_below hall4 hb5 (by omega); have B5 := B4.trans (hb5.mono (by omega)))
            | (refine wpList_store_set rfl _ _ rfl (w.heap.size + 1) _ _ rfl rfl hall5 ?_; intro w6 hs6 ho6; have B6 := ho6.below B5 (Nat.le_refl _))
            | fail)
          go_roundw
          case rel => exact ⟨y, _, _, _, rfl, hnew _ hs6 B6⟩
          case measure => simp [intOf]; omega
      · rw [decide_eq_false h1] at hbad hok
        have hcall := item_q s x false r x rfl hI.drop hx hs
        have hne : ((x : Int) == 2) = false := by rw [beq_eq_false_iff_ne]; omega
        have e93 := hasB_q hI.drop x rfl 93 93 rfl
        rw [decide_eq_false (fun h => hend ⟨h, h1⟩)] at e93
        cases hit : itemM cls false r with
        | bad e =>
          have hP := HP.out
          rw [hbad e hit, show ofBR (closeB true (.bad e)) = .bad e from rfl, nextV_bad] at hP
          have HP := Lib.hid hP
          have he0 : ((e : Int) != 0) = true := by
            have := itemM_err hit
            rw [bne_iff_ne]; omega
          rw [hit, itemV_bad] at hcall
          clear hI hP hstart HR HQ hend hnot hit hbad hok h1
          go_wp2_with (first
            | (go_at_call 118; refine (has_b' s _ _ (by omega) (by omega) _).mono ?_; rintro e w1 ⟨rfl, rfl⟩)
            | (go_at_call 122; refine (hcall _ hmr).mono ?_; rintro e w3 ⟨rfl, hb3⟩; have c3 : ∀ o, w3.cell? ⟨w.heap.size, o, none⟩ = _ := fun o => (hb3.cell (p := ⟨w.heap.size, o, none⟩) hsz0).trans (cr o); have f3 : ∀ o, w3.frozen? ⟨w.heap.size, o, none⟩ = _ := fun o => (hb3.frozen (p := ⟨w.heap.size, o, none⟩) hsz0).trans (fr o); have hz3 : w.heap.size < w3.heap.size := Nat.lt_of_lt_of_le hsz0 hb3.size; have hz3' : w.heap.size ≠ w3.heap.size := Nat.ne_of_lt hz3; have B3 : Below w.heap.size w w3 := hB0.trans (hb3.mono (Nat.le_of_lt hsz0)))
            | fail)
          refine bodyPost_ret (v := .tuple #[tokV0 0 0 0, .int .i64 0, .int .i64 e]) (by simp [results, Tryz.results103, go_sem, c3, cell_alloc_old, hz3]) rfl ⟨by rw [HP.out] <;> rfl, ?_⟩
          refine Below.alloc ?_ (by simp; omega) _
          iterate 8 (refine Below.setCell ?_ (by simp) _)
          exact B3
        | ok t rest =>
          obtain ⟨y, hy⟩ : ∃ y, y = s.size - rest.length := ⟨_, rfl⟩
          rw [hit, itemV_ok _ _ _ y hy.symm] at hcall
          obtain ⟨k1, k2, k3⟩ := hok t rest hit
          have hrl : r.length = s.size - x := by rw [← hI.drop, List.length_drop, nats_length]
          have hnew : ∀ w7, SetAt w7 (w.heap.size + 1) (acc ||| t) → Below (w.heap.size + 1) (w.alloc (.cells #[.int .i64 0, .int .u64 0, .int .u64 0, .int .u64 0, .int .u64 0, .int .i64 0, .int .i64 0, .int .i64 0] 135)) w7 →
              InItems s w 2 R y (acc ||| t) rest (fuel - 1) w7 := fun w7 g1 g2 =>
            ⟨by rw [hy]; have := suf_drop hI.drop k2 (by rw [nats_length]; exact hx); rw [nats_length] at this; exact this, by omega, by have := hI.ge; omega, by have := hI.room; omega, by
              have e1 := hI.eq
              rw [decide_eq_false h1, k1] at e1
              rw [decide_eq_false (by have := hI.ge; omega)]; exact e1, g1, g2⟩
          have hmeas : s.size + 1 - y < s.size + 1 - x := by omega
          have hall := hI.all
          have hbel := hI.below
          have hyb : y < 4294967296 := by omega
          clear hI hstart HR HQ hend hnot hit hbad hok HP k1 k2 k3 hrl hy h1
          go_wp2_with (first
            | (go_at_call 118; refine (has_b' s _ _ (by omega) (by omega) _).mono ?_; rintro e w1 ⟨rfl, rfl⟩)
            | (go_at_call 122; refine (hcall _ hmr).mono ?_; rintro e w3 ⟨rfl, hb3⟩; have hall3 := setAt_below hall hb3 hsz; have hz3 : w.heap.size + 1 < w3.heap.size := Nat.lt_of_lt_of_le hsz hb3.size; have B3 := hbel.trans (hb3.mono (Nat.le_of_lt hsz)))
            | (refine wpList_store_set rfl _ _ rfl w3.heap.size 0 t rfl rfl (setAt_new _) ?_; intro w4 hs4 ho4; have hall4 := ho4.setAt (Nat.ne_of_lt hz3) (setAt_alloc hall3 _); have hz4 := ho4.size; have B4 := ho4.below (B3.alloc (Nat.le_of_lt hz3) _) (Nat.le_of_lt hz3); simp at hz4)
            | (refine wpList_load_set rfl _ rfl (w.heap.size + 1) 0 _ rfl hall4.four ?_)
            | (refine wpList_load_set rfl _ rfl w3.heap.size 0 _ rfl hs4.four ?_)
            | (go_at_call 123; refine (or_any _ _ _).mono ?_; rintro e w5 ⟨rfl, hb5⟩; have hall5 := setAt_below hall4 hb5 (by omega); have B5 := B4.trans (hb5.mono (by omega)))
            | (refine wpList_store_set rfl _ _ rfl (w.heap.size + 1) _ _ rfl rfl hall5 ?_; intro w6 hs6 ho6; have B6 := ho6.below B5 (Nat.le_refl _))
            | fail)
          go_roundw
          case rel => exact ⟨y, _, _, _, rfl, hnew _ hs6 B6⟩
          case measure => simp [intOf]; omega
theorem expression_q (s : ByteArray) (q : List Nat) (hq : nats s = 91 :: q) (hs : s.size < 4294967281) (w : World) (hm : MaxAt w) :
    Calls Tryz.prog 103 #[.string s] w fun e w' => e = .returned (nextV s.size (ofBR (bracket cls q))) ∧ Below w.heap.size w w' := by
  have hq1 : (nats s).drop 1 = q := by rw [hq]; rfl
  have hl := nats_length s
  rw [hq, lenCons] at hl
  have e94 := hasB_q hq1 1 rfl 94 94 rfl
  by_cases h : q.head? = some 94
  · obtain ⟨q1, rfl⟩ := head_cons h
    rw [decide_eq_true h] at e94
    rw [bracket_not]
    rw [lenCons] at hl
    exact expr_true s q1 e94 (by rw [hq]; rfl) (by omega) hs w hm
  · rw [decide_eq_false h] at e94
    rw [bracket_plain q h]
    exact expr_false s q e94 hq1 (by omega) hs w hm
end Go.Proofs.YtlgpbgcheeaalaaGreatDoor
/-! The walk of token's next: the token that a text begins with. -/
namespace Go.Proofs.YtlgpbgcheeaalaaGreatDoor
set_option maxRecDepth 100000
open Go.RowKit
theorem preB_three (x : ByteArray) (q : List Nat) (hx : nats x = q) : preB x ⟨#[40, 63, 58]⟩ = decide (q.head? = some 40 ∧ q.tail.head? = some 63 ∧ q.tail.tail.head? = some 58) := by
  subst hx
  unfold preB Lib.hasPrefix nats
  rw [show (⟨#[40, 63, 58]⟩ : ByteArray).data.toList = [40, 63, 58] from rfl]
  match x.data.toList with
  | [] => rfl
  | [a] => simp [List.isPrefixOf]
  | [a, b] => simp [List.isPrefixOf]
  | a :: b :: c :: l =>
    simp only [List.isPrefixOf, List.map_cons, List.head?_cons, List.tail_cons, Option.some.injEq, Bool.and_true]
    rw [Bool.eq_iff_iff]
    simp only [Bool.and_eq_true, beq_iff_eq, decide_eq_true_eq]
    constructor
    · rintro ⟨h1, h2, h3⟩; rw [← h1, ← h2, ← h3]; exact ⟨rfl, rfl, rfl⟩
    · rintro ⟨h1, h2, h3⟩; exact ⟨(UInt8.toNat_inj.mp h1).symm, (UInt8.toNat_inj.mp h2).symm, (UInt8.toNat_inj.mp h3).symm⟩
theorem nextV_form (n : Nat) (t : TR) : ∃ k w0 w1 w2 w3 lo hi d e : Int, nextV n t = .tuple #[.agg #[.int .i64 k, .int .u64 w0, .int .u64 w1, .int .u64 w2, .int .u64 w3, .int .i64 lo, .int .i64 hi, .int .i64 0], .int .i64 d, .int .i64 e] := by
  cases t with
  | bad e => exact ⟨0, 0, 0, 0, 0, 0, 0, 0, e, rfl⟩
  | ok t rest => exact ⟨_, _, _, _, _, _, _, _, _, rfl⟩
theorem byte_other (cls : List Nat → Option (BitVec 256)) (x : Nat) (r : List Nat) (h : x ∉ [42, 43, 63, 123, 40, 41, 124, 94, 36, 46, 92, 91]) : tokOf cls x r = .ok ⟨1, oneByte x, 0, 0⟩ r := by
  have hn : ∀ y ∈ [42, 43, 63, 123, 40, 41, 124, 94, 36, 46, 92, 91], x ≠ y := fun y hy e => h (by rw [e]; exact hy)
  unfold tokOf
  rw [if_neg (hn 42 (by decide)), if_neg (hn 43 (by decide)), if_neg (hn 63 (by decide)), if_neg (hn 123 (by decide)), if_neg (hn 40 (by decide)), if_neg (hn 41 (by decide)), if_neg (hn 124 (by decide)), if_neg (hn 94 (by decide)), if_neg (hn 36 (by decide)), if_neg (hn 46 (by decide)), if_neg (hn 92 (by decide)), if_neg (hn 91 (by decide))]

set_option maxHeartbeats 2000000 in
theorem next_42 (s : ByteArray) (r : List Nat) (hq : nats s = 42 :: r) (_hs : s.size < 4294967281) (w : World) :
    Calls Tryz.prog 80 #[.string s] w fun e w' => e = .returned (nextV s.size (tokOf cls 42 r)) ∧ Below w.heap.size w w' := by
  have hl := nats_length s
  rw [hq, lenCons] at hl
  obtain ⟨g1, g2, g3, _⟩ := nats_cons (s := s) (k := 0) (x := 42) (r := r) hq
  rw [show tokOf cls 42 r = .ok ⟨6, 0, 0, -1⟩ r from rfl, nextV_ok0, show s.size - r.length = 1 from by omega]
  clear hq hl
  go_enter Tryz.func80, Tryz.ntmps80
  go_wp2_with (go_at_call 98; refine (repetition_any _ _ _).mono ?_; rintro e w1 ⟨rfl, rfl⟩)
  refine bodyPost_ret (v := .tuple #[tokV0 6 (0) (-1), .int .i64 (1 : Nat), .int .i64 0]) (by simp [results, Tryz.results80, go_sem]) rfl ⟨rfl, ?_⟩
  repeat (first | exact Below.refl _ _ | refine Below.drew ?_ | refine Below.alloc ?_ (by simp; try omega) _ | refine Below.setCell ?_ (by simp; try omega) _)
set_option maxHeartbeats 2000000 in
theorem next_43 (s : ByteArray) (r : List Nat) (hq : nats s = 43 :: r) (_hs : s.size < 4294967281) (w : World) :
    Calls Tryz.prog 80 #[.string s] w fun e w' => e = .returned (nextV s.size (tokOf cls 43 r)) ∧ Below w.heap.size w w' := by
  have hl := nats_length s
  rw [hq, lenCons] at hl
  obtain ⟨g1, g2, g3, _⟩ := nats_cons (s := s) (k := 0) (x := 43) (r := r) hq
  rw [show tokOf cls 43 r = .ok ⟨6, 0, 1, -1⟩ r from rfl, nextV_ok0, show s.size - r.length = 1 from by omega]
  clear hq hl
  go_enter Tryz.func80, Tryz.ntmps80
  go_wp2_with (go_at_call 98; refine (repetition_any _ _ _).mono ?_; rintro e w1 ⟨rfl, rfl⟩)
  refine bodyPost_ret (v := .tuple #[tokV0 6 (1) (-1), .int .i64 (1 : Nat), .int .i64 0]) (by simp [results, Tryz.results80, go_sem]) rfl ⟨rfl, ?_⟩
  repeat (first | exact Below.refl _ _ | refine Below.drew ?_ | refine Below.alloc ?_ (by simp; try omega) _ | refine Below.setCell ?_ (by simp; try omega) _)
set_option maxHeartbeats 2000000 in
theorem next_63 (s : ByteArray) (r : List Nat) (hq : nats s = 63 :: r) (_hs : s.size < 4294967281) (w : World) :
    Calls Tryz.prog 80 #[.string s] w fun e w' => e = .returned (nextV s.size (tokOf cls 63 r)) ∧ Below w.heap.size w w' := by
  have hl := nats_length s
  rw [hq, lenCons] at hl
  obtain ⟨g1, g2, g3, _⟩ := nats_cons (s := s) (k := 0) (x := 63) (r := r) hq
  rw [show tokOf cls 63 r = .ok ⟨6, 0, 0, 1⟩ r from rfl, nextV_ok0, show s.size - r.length = 1 from by omega]
  clear hq hl
  go_enter Tryz.func80, Tryz.ntmps80
  go_wp2_with (go_at_call 98; refine (repetition_any _ _ _).mono ?_; rintro e w1 ⟨rfl, rfl⟩)
  refine bodyPost_ret (v := .tuple #[tokV0 6 (0) (1), .int .i64 (1 : Nat), .int .i64 0]) (by simp [results, Tryz.results80, go_sem]) rfl ⟨rfl, ?_⟩
  repeat (first | exact Below.refl _ _ | refine Below.drew ?_ | refine Below.alloc ?_ (by simp; try omega) _ | refine Below.setCell ?_ (by simp; try omega) _)
set_option maxHeartbeats 2000000 in
theorem next_41 (s : ByteArray) (r : List Nat) (hq : nats s = 41 :: r) (_hs : s.size < 4294967281) (w : World) :
    Calls Tryz.prog 80 #[.string s] w fun e w' => e = .returned (nextV s.size (tokOf cls 41 r)) ∧ Below w.heap.size w w' := by
  have hl := nats_length s
  rw [hq, lenCons] at hl
  obtain ⟨g1, g2, g3, _⟩ := nats_cons (s := s) (k := 0) (x := 41) (r := r) hq
  rw [show tokOf cls 41 r = .ok ⟨4, 0, 0, 0⟩ r from rfl, nextV_ok0, show s.size - r.length = 1 from by omega]
  clear hq hl
  go_enter Tryz.func80, Tryz.ntmps80
  go_wp2_with fail
  refine bodyPost_ret (v := .tuple #[tokV0 4 0 0, .int .i64 (1 : Nat), .int .i64 0]) (by simp [results, Tryz.results80, go_sem]) rfl ⟨rfl, ?_⟩
  repeat (first | exact Below.refl _ _ | refine Below.drew ?_ | refine Below.alloc ?_ (by simp; try omega) _ | refine Below.setCell ?_ (by simp; try omega) _)
set_option maxHeartbeats 2000000 in
theorem next_124 (s : ByteArray) (r : List Nat) (hq : nats s = 124 :: r) (_hs : s.size < 4294967281) (w : World) :
    Calls Tryz.prog 80 #[.string s] w fun e w' => e = .returned (nextV s.size (tokOf cls 124 r)) ∧ Below w.heap.size w w' := by
  have hl := nats_length s
  rw [hq, lenCons] at hl
  obtain ⟨g1, g2, g3, _⟩ := nats_cons (s := s) (k := 0) (x := 124) (r := r) hq
  rw [show tokOf cls 124 r = .ok ⟨5, 0, 0, 0⟩ r from rfl, nextV_ok0, show s.size - r.length = 1 from by omega]
  clear hq hl
  go_enter Tryz.func80, Tryz.ntmps80
  go_wp2_with fail
  refine bodyPost_ret (v := .tuple #[tokV0 5 0 0, .int .i64 (1 : Nat), .int .i64 0]) (by simp [results, Tryz.results80, go_sem]) rfl ⟨rfl, ?_⟩
  repeat (first | exact Below.refl _ _ | refine Below.drew ?_ | refine Below.alloc ?_ (by simp; try omega) _ | refine Below.setCell ?_ (by simp; try omega) _)
set_option maxHeartbeats 2000000 in
theorem next_94 (s : ByteArray) (r : List Nat) (hq : nats s = 94 :: r) (_hs : s.size < 4294967281) (w : World) :
    Calls Tryz.prog 80 #[.string s] w fun e w' => e = .returned (nextV s.size (tokOf cls 94 r)) ∧ Below w.heap.size w w' := by
  have hl := nats_length s
  rw [hq, lenCons] at hl
  obtain ⟨g1, g2, g3, _⟩ := nats_cons (s := s) (k := 0) (x := 94) (r := r) hq
  rw [show tokOf cls 94 r = .ok ⟨7, 0, 0, 0⟩ r from rfl, nextV_ok0, show s.size - r.length = 1 from by omega]
  clear hq hl
  go_enter Tryz.func80, Tryz.ntmps80
  go_wp2_with fail
  refine bodyPost_ret (v := .tuple #[tokV0 7 0 0, .int .i64 (1 : Nat), .int .i64 0]) (by simp [results, Tryz.results80, go_sem]) rfl ⟨rfl, ?_⟩
  repeat (first | exact Below.refl _ _ | refine Below.drew ?_ | refine Below.alloc ?_ (by simp; try omega) _ | refine Below.setCell ?_ (by simp; try omega) _)
set_option maxHeartbeats 2000000 in
theorem next_36 (s : ByteArray) (r : List Nat) (hq : nats s = 36 :: r) (_hs : s.size < 4294967281) (w : World) :
    Calls Tryz.prog 80 #[.string s] w fun e w' => e = .returned (nextV s.size (tokOf cls 36 r)) ∧ Below w.heap.size w w' := by
  have hl := nats_length s
  rw [hq, lenCons] at hl
  obtain ⟨g1, g2, g3, _⟩ := nats_cons (s := s) (k := 0) (x := 36) (r := r) hq
  rw [show tokOf cls 36 r = .ok ⟨8, 0, 0, 0⟩ r from rfl, nextV_ok0, show s.size - r.length = 1 from by omega]
  clear hq hl
  go_enter Tryz.func80, Tryz.ntmps80
  go_wp2_with fail
  refine bodyPost_ret (v := .tuple #[tokV0 8 0 0, .int .i64 (1 : Nat), .int .i64 0]) (by simp [results, Tryz.results80, go_sem]) rfl ⟨rfl, ?_⟩
  repeat (first | exact Below.refl _ _ | refine Below.drew ?_ | refine Below.alloc ?_ (by simp; try omega) _ | refine Below.setCell ?_ (by simp; try omega) _)
set_option maxHeartbeats 2000000 in
theorem next_40 (s : ByteArray) (r : List Nat) (hq : nats s = 40 :: r) (_hs : s.size < 4294967281) (w : World) :
    Calls Tryz.prog 80 #[.string s] w fun e w' => e = .returned (nextV s.size (tokOf cls 40 r)) ∧ Below w.heap.size w w' := by
  have hl := nats_length s
  rw [hq, lenCons] at hl
  obtain ⟨g1, g2, g3, _⟩ := nats_cons (s := s) (k := 0) (x := 40) (r := r) hq
  have hp := preB_three s _ hq
  by_cases h : r.head? = some 63 ∧ r.tail.head? = some 58
  · obtain ⟨h1, h2⟩ := h
    obtain ⟨r1, rfl⟩ := head_cons h1
    obtain ⟨r2, rfl⟩ := head_cons h2
    rw [decide_eq_true ⟨rfl, rfl, rfl⟩] at hp
    rw [show tokOf cls 40 (63 :: 58 :: r2) = .ok ⟨3, 0, 0, 0⟩ r2 from rfl, nextV_ok0, show s.size - r2.length = 3 from by simp only [lenCons] at hl; omega]
    clear hq hl h1 h2
    go_enter Tryz.func80, Tryz.ntmps80
    go_wp2_with (go_at_call 100; refine (pre_b _ _ _).mono ?_; rintro e w1 ⟨rfl, rfl⟩)
    refine bodyPost_ret (v := .tuple #[tokV0 3 0 0, .int .i64 (3 : Nat), .int .i64 0]) (by simp [results, Tryz.results80, go_sem]) rfl ⟨rfl, ?_⟩
    repeat (first | exact Below.refl _ _ | refine Below.drew ?_ | refine Below.alloc ?_ (by simp; try omega) _ | refine Below.setCell ?_ (by simp; try omega) _)
  · rw [decide_eq_false (fun h' => h h'.2)] at hp
    have ht : tokOf cls 40 r = .ok ⟨2, 0, 0, 0⟩ r := by
      show (match r with | 63 :: 58 :: r2 => TR.ok ⟨3, 0, 0, 0⟩ r2 | _ => TR.ok ⟨2, 0, 0, 0⟩ r) = _
      split
      · exact absurd ⟨rfl, rfl⟩ h
      · rfl
    rw [ht, nextV_ok0, show s.size - r.length = 1 from by omega]
    clear hq hl h ht
    go_enter Tryz.func80, Tryz.ntmps80
    go_wp2_with (go_at_call 100; refine (pre_b _ _ _).mono ?_; rintro e w1 ⟨rfl, rfl⟩)
    refine bodyPost_ret (v := .tuple #[tokV0 2 0 0, .int .i64 (1 : Nat), .int .i64 0]) (by simp [results, Tryz.results80, go_sem]) rfl ⟨rfl, ?_⟩
    repeat (first | exact Below.refl _ _ | refine Below.drew ?_ | refine Below.alloc ?_ (by simp; try omega) _ | refine Below.setCell ?_ (by simp; try omega) _)
set_option maxHeartbeats 2000000 in
theorem next_46 (s : ByteArray) (r : List Nat) (hq : nats s = 46 :: r) (_hs : s.size < 4294967281) (w : World) :
    Calls Tryz.prog 80 #[.string s] w fun e w' => e = .returned (nextV s.size (tokOf cls 46 r)) ∧ Below w.heap.size w w' := by
  have hl := nats_length s
  rw [hq, lenCons] at hl
  obtain ⟨g1, g2, g3, _⟩ := nats_cons (s := s) (k := 0) (x := 46) (r := r) hq
  rw [show tokOf cls 46 r = .ok ⟨1, BitVec.allOnes 256, 0, 0⟩ r from rfl, nextV_ok1 _ _ _ 1 (by omega)]
  have hall := all_any
  generalize BitVec.allOnes 256 = S at *
  clear hq hl
  go_enter Tryz.func80, Tryz.ntmps80
  go_wp2_with fail
  refine (hall _).mono ?_
  rintro e w1 ⟨rfl, hb1⟩
  have c1 : ∀ o, w1.cell? ⟨w.heap.size, o, none⟩ = _ := fun o => hb1.cell (p := ⟨w.heap.size, o, none⟩) (by simp; try omega)
  have f1 : ∀ o, w1.frozen? ⟨w.heap.size, o, none⟩ = _ := fun o => hb1.frozen (p := ⟨w.heap.size, o, none⟩) (by simp; try omega)
  have hz1 : w.heap.size < w1.heap.size := by have := hb1.size; simp at this; omega
  have B1 : Below w.heap.size w w1 := ((Below.refl _ _).alloc (Nat.le_refl _) _).trans (hb1.mono (by simp))
  clear hb1
  go_wp2_with fail
  refine bodyPost_ret (v := .tuple #[tokV1 S, .int .i64 (1 : Nat), .int .i64 0]) (by simp [results, Tryz.results80, go_sem, c1]) rfl ⟨rfl, ?_⟩
  iterate 8 (refine Below.setCell ?_ (by simp) _)
  exact B1
set_option maxHeartbeats 2000000 in
theorem next_123 (s : ByteArray) (r : List Nat) (hq : nats s = 123 :: r) (hs : s.size < 4294967281) (w : World) :
    Calls Tryz.prog 80 #[.string s] w fun e w' => e = .returned (nextV s.size (tokOf cls 123 r)) ∧ Below w.heap.size w w' := by
  have hl := nats_length s
  rw [hq, lenCons] at hl
  obtain ⟨g1, g2, g3, _⟩ := nats_cons (s := s) (k := 0) (x := 123) (r := r) hq
  rw [show tokOf cls 123 r = often r from rfl]
  have hn := braces_q s r hq (by omega)
  obtain ⟨k, v0, v1, v2, v3, lo, hi, d, e, hV⟩ := nextV_form s.size (often r)
  rw [hV] at hn ⊢
  clear hq hl hV
  go_enter Tryz.func80, Tryz.ntmps80
  go_wp2_with fail
  refine (hn _).mono ?_
  rintro e w1 ⟨rfl, hb1⟩
  have c1 : ∀ o, w1.cell? ⟨w.heap.size, o, none⟩ = _ := fun o => hb1.cell (p := ⟨w.heap.size, o, none⟩) (by simp; try omega)
  have f1 : ∀ o, w1.frozen? ⟨w.heap.size, o, none⟩ = _ := fun o => hb1.frozen (p := ⟨w.heap.size, o, none⟩) (by simp; try omega)
  have hz1 : w.heap.size < w1.heap.size := by have := hb1.size; simp at this; omega
  have B1 : Below w.heap.size w w1 := ((Below.refl _ _).alloc (Nat.le_refl _) _).trans (hb1.mono (by simp))
  clear hb1
  go_wp2_with fail
  refine bodyPost_ret (v := .tuple #[.agg #[.int .i64 k, .int .u64 v0, .int .u64 v1, .int .u64 v2, .int .u64 v3, .int .i64 lo, .int .i64 hi, .int .i64 0], .int .i64 d, .int .i64 e]) (by simp [results, Tryz.results80, go_sem, c1]) rfl ⟨rfl, ?_⟩
  iterate 8 (refine Below.setCell ?_ (by simp) _)
  exact B1
set_option maxHeartbeats 2000000 in
theorem next_92 (s : ByteArray) (r : List Nat) (hq : nats s = 92 :: r) (hs : s.size < 4294967281) (w : World) :
    Calls Tryz.prog 80 #[.string s] w fun e w' => e = .returned (nextV s.size (tokOf cls 92 r)) ∧ Below w.heap.size w w' := by
  have hl := nats_length s
  rw [hq, lenCons] at hl
  obtain ⟨g1, g2, g3, _⟩ := nats_cons (s := s) (k := 0) (x := 92) (r := r) hq
  rw [show tokOf cls 92 r = escape r from rfl]
  have hn := escape_q s r hq (by omega)
  obtain ⟨k, v0, v1, v2, v3, lo, hi, d, e, hV⟩ := nextV_form s.size (escape r)
  rw [hV] at hn ⊢
  clear hq hl hV
  go_enter Tryz.func80, Tryz.ntmps80
  go_wp2_with fail
  refine (hn _).mono ?_
  rintro e w1 ⟨rfl, hb1⟩
  have c1 : ∀ o, w1.cell? ⟨w.heap.size, o, none⟩ = _ := fun o => hb1.cell (p := ⟨w.heap.size, o, none⟩) (by simp; try omega)
  have f1 : ∀ o, w1.frozen? ⟨w.heap.size, o, none⟩ = _ := fun o => hb1.frozen (p := ⟨w.heap.size, o, none⟩) (by simp; try omega)
  have hz1 : w.heap.size < w1.heap.size := by have := hb1.size; simp at this; omega
  have B1 : Below w.heap.size w w1 := ((Below.refl _ _).alloc (Nat.le_refl _) _).trans (hb1.mono (by simp))
  clear hb1
  go_wp2_with fail
  refine bodyPost_ret (v := .tuple #[.agg #[.int .i64 k, .int .u64 v0, .int .u64 v1, .int .u64 v2, .int .u64 v3, .int .i64 lo, .int .i64 hi, .int .i64 0], .int .i64 d, .int .i64 e]) (by simp [results, Tryz.results80, go_sem, c1]) rfl ⟨rfl, ?_⟩
  iterate 8 (refine Below.setCell ?_ (by simp) _)
  exact B1
set_option maxHeartbeats 2000000 in
theorem next_91 (s : ByteArray) (r : List Nat) (hq : nats s = 91 :: r) (hs : s.size < 4294967281) (w : World) (hm : MaxAt w) :
    Calls Tryz.prog 80 #[.string s] w fun e w' => e = .returned (nextV s.size (tokOf cls 91 r)) ∧ Below w.heap.size w w' := by
  have hl := nats_length s
  rw [hq, lenCons] at hl
  obtain ⟨g1, g2, g3, _⟩ := nats_cons (s := s) (k := 0) (x := 91) (r := r) hq
  rw [show tokOf cls 91 r = ofBR (bracket cls r) from rfl]
  have hn := expression_q s r hq hs
  obtain ⟨k, v0, v1, v2, v3, lo, hi, d, e, hV⟩ := nextV_form s.size (ofBR (bracket cls r))
  rw [hV] at hn ⊢
  clear hq hl hV
  go_enter Tryz.func80, Tryz.ntmps80
  go_wp2_with fail
  refine (hn _ (maxAt_below hm ((Below.refl _ _).alloc (Nat.le_refl _) _))).mono ?_
  rintro e w1 ⟨rfl, hb1⟩
  have c1 : ∀ o, w1.cell? ⟨w.heap.size, o, none⟩ = _ := fun o => hb1.cell (p := ⟨w.heap.size, o, none⟩) (by simp; try omega)
  have f1 : ∀ o, w1.frozen? ⟨w.heap.size, o, none⟩ = _ := fun o => hb1.frozen (p := ⟨w.heap.size, o, none⟩) (by simp; try omega)
  have hz1 : w.heap.size < w1.heap.size := by have := hb1.size; simp at this; omega
  have B1 : Below w.heap.size w w1 := ((Below.refl _ _).alloc (Nat.le_refl _) _).trans (hb1.mono (by simp))
  clear hb1
  go_wp2_with fail
  refine bodyPost_ret (v := .tuple #[.agg #[.int .i64 k, .int .u64 v0, .int .u64 v1, .int .u64 v2, .int .u64 v3, .int .i64 lo, .int .i64 hi, .int .i64 0], .int .i64 d, .int .i64 e]) (by simp [results, Tryz.results80, go_sem, c1]) rfl ⟨rfl, ?_⟩
  iterate 8 (refine Below.setCell ?_ (by simp) _)
  exact B1
set_option maxHeartbeats 2000000 in
theorem next_other (s : ByteArray) (x : Nat) (r : List Nat) (hq : nats s = x :: r) (_hs : s.size < 4294967281) (hx : x ∉ [42, 43, 63, 123, 40, 41, 124, 94, 36, 46, 92, 91]) (w : World) :
    Calls Tryz.prog 80 #[.string s] w fun e w' => e = .returned (nextV s.size (tokOf cls x r)) ∧ Below w.heap.size w w' := by
  have hl := nats_length s
  rw [hq, lenCons] at hl
  obtain ⟨g1, g2, g3, _⟩ := nats_cons (s := s) (k := 0) (x := x) (r := r) hq
  rw [byte_other cls x r hx, nextV_ok1 _ _ _ 1 (by omega)]
  have hof := fun g n cap w => of_any g n cap [x] w
  rw [setOf_one] at hof
  have hby := fun g cap w h => hof (some ⟨g, 0, none⟩) 1 cap w h
  have hn : ∀ y ∈ [42, 43, 63, 123, 40, 41, 124, 94, 36, 46, 92, 91], ((x : Int) == ((y : Nat) : Int)) = false := by
    intro y hy
    rw [beq_eq_false_iff_ne]
    intro e
    exact hx (by rw [show x = y from by omega]; exact hy)
  have n42 : ((x : Int) == 42) = false := hn 42 (by decide)
  have n43 : ((x : Int) == 43) = false := hn 43 (by decide)
  have n63 : ((x : Int) == 63) = false := hn 63 (by decide)
  have n123 : ((x : Int) == 123) = false := hn 123 (by decide)
  have n40 : ((x : Int) == 40) = false := hn 40 (by decide)
  have n41 : ((x : Int) == 41) = false := hn 41 (by decide)
  have n124 : ((x : Int) == 124) = false := hn 124 (by decide)
  have n94 : ((x : Int) == 94) = false := hn 94 (by decide)
  have n36 : ((x : Int) == 36) = false := hn 36 (by decide)
  have n46 : ((x : Int) == 46) = false := hn 46 (by decide)
  have n92 : ((x : Int) == 92) = false := hn 92 (by decide)
  have n91 : ((x : Int) == 91) = false := hn 91 (by decide)
  generalize oneByte x = S at *
  clear hq hl hx hn hof
  go_enter Tryz.func80, Tryz.ntmps80
  go_wp2_with fail
  refine (hby _ _ _ (bytesAt_new [_] (by intro z hz; rw [List.mem_singleton] at hz; omega) (by simp [maxLen]) rfl (by simp) rfl (Nat.le_refl 1))).mono ?_
  rintro e w1 ⟨rfl, hb1⟩
  have c1 : ∀ o, w1.cell? ⟨w.heap.size, o, none⟩ = _ := fun o => hb1.cell (p := ⟨w.heap.size, o, none⟩) (by simp; try omega)
  have f1 : ∀ o, w1.frozen? ⟨w.heap.size, o, none⟩ = _ := fun o => hb1.frozen (p := ⟨w.heap.size, o, none⟩) (by simp; try omega)
  have hz1 : w.heap.size < w1.heap.size := by have := hb1.size; simp at this; omega
  have B1 : Below w.heap.size w w1 := (((Below.refl _ _).alloc (Nat.le_refl _) _).alloc (by simp) _).trans (hb1.mono (by simp; omega))
  clear hb1
  go_wp2_with fail
  refine bodyPost_ret (v := .tuple #[tokV1 S, .int .i64 (1 : Nat), .int .i64 0]) (by simp [results, Tryz.results80, go_sem, c1]) rfl ⟨rfl, ?_⟩
  iterate 8 (refine Below.setCell ?_ (by simp) _)
  exact B1
theorem next_q (s : ByteArray) (x : Nat) (r : List Nat) (hq : nats s = x :: r) (hs : s.size < 4294967281) (w : World) (hm : MaxAt w) :
    Calls Tryz.prog 80 #[.string s] w fun e w' => e = .returned (nextV s.size (tokOf cls x r)) ∧ Below w.heap.size w w' := by
  by_cases hx : x ∈ [42, 43, 63, 123, 40, 41, 124, 94, 36, 46, 92, 91]
  · simp only [List.mem_cons, List.not_mem_nil, or_false] at hx
    rcases hx with rfl | rfl | rfl | rfl | rfl | rfl | rfl | rfl | rfl | rfl | rfl | rfl
    · exact next_42 s r hq hs w
    · exact next_43 s r hq hs w
    · exact next_63 s r hq hs w
    · exact next_123 s r hq hs w
    · exact next_40 s r hq hs w
    · exact next_41 s r hq hs w
    · exact next_124 s r hq hs w
    · exact next_94 s r hq hs w
    · exact next_36 s r hq hs w
    · exact next_46 s r hq hs w
    · exact next_92 s r hq hs w
    · exact next_91 s r hq hs w hm
  · exact next_other s x r hq hs hx w
end Go.Proofs.YtlgpbgcheeaalaaGreatDoor
/-! The walk of token's Cut: a whole text. -/
namespace Go.Proofs.YtlgpbgcheeaalaaGreatDoor
set_option maxRecDepth 100000
open Go.RowKit
/-- the cells of a list of tokens with their places -/
def tokCells (L : List (Tok × Nat)) : List Value := L.flatMap fun p => [.int .i64 p.1.kind, .int .u64 (word p.1.set 0), .int .u64 (word p.1.set 1), .int .u64 (word p.1.set 2), .int .u64 (word p.1.set 3), .int .i64 p.1.lo, .int .i64 p.1.hi, .int .i64 p.2]
theorem tokCells_append (a b : List (Tok × Nat)) : tokCells (a ++ b) = tokCells a ++ tokCells b := by simp [tokCells]
theorem tokCells_length (L : List (Tok × Nat)) : (tokCells L).length = L.length * 8 := by
  induction L with
  | nil => rfl
  | cons r L ih => simp [tokCells] at ih ⊢; omega
theorem info_tok : (Tryz.prog.info? 135).map (fun i => (i.zero, i.size, i.bytes)) = some (some (.agg #[.int .i64 0, .int .u64 0, .int .u64 0, .int .u64 0, .int .u64 0, .int .i64 0, .int .i64 0, .int .i64 0]), 8, 64) := by kernel_rfl
theorem toks_eight (w : World) (g : Nat) (hg : g = w.heap.size) (x0 x1 x2 x3 x4 x5 x6 x7 : Value) (t : TypeId) : ∀ (j : Nat) (x : Value), [x0, x1, x2, x3, x4, x5, x6, x7][j]? = some x → (w.alloc (.cells #[x0, x1, x2, x3, x4, x5, x6, x7] t)).cell? ((⟨g, 0, none⟩ : Addr).add j) = some x := by
  subst hg
  intro j x hx
  match j with
  | 0 => simp at hx; subst hx; simp [Addr.add]
  | 1 => simp at hx; subst hx; simp [Addr.add]
  | 2 => simp at hx; subst hx; simp [Addr.add]
  | 3 => simp at hx; subst hx; simp [Addr.add]
  | 4 => simp at hx; subst hx; simp [Addr.add]
  | 5 => simp at hx; subst hx; simp [Addr.add]
  | 6 => simp at hx; subst hx; simp [Addr.add]
  | 7 => simp at hx; subst hx; simp [Addr.add]
  | j + 8 => simp at hx
theorem often_err {q : List Nat} {e : Nat} (h : often q = .bad e) : e ≠ 0 := by
  rcases number_ways q with ⟨h0, _⟩ | ⟨h0, h1, _⟩ | ⟨h0, h1, _⟩
  · rw [often_bad h0] at h; injection h with h; omega
  · rw [often_large h0 h1] at h; injection h with h; omega
  · rw [often_tail h0 h1] at h
    unfold oftenTail at h
    split at h
    · cases h
    · cases h
    · simp only at h
      split at h
      · injection h with h; omega
      · split at h
        · injection h with h; omega
        · split at h
          · split at h
            · injection h with h; omega
            · cases h
          · injection h with h; omega
    · injection h with h; omega
theorem items_err : ∀ (f : Nat) (first : Bool) (s : BitVec 256) (q : List Nat) (e : Nat), items cls f first s q = .bad e → e ≠ 0
  | 0, _, _, _, e, h => by unfold items at h; injection h with h; omega
  | f + 1, _, _, [], e, h => by unfold items at h; injection h with h; omega
  | f + 1, first, s, x :: r, e, h => by
    unfold items at h
    split at h
    · cases h
    · split at h
      · rename_i e' he
        injection h with h
        rw [← h]
        exact itemM_err (r := x :: r) he
      · exact items_err f false _ _ e h
theorem escape_err {q : List Nat} {e : Nat} (h : escape q = .bad e) : e ≠ 0 := by
  unfold escape at h
  split at h
  · injection h with h; omega
  · split at h
    · cases h
    · split at h
      · injection h with h; omega
      · injection h with h; omega
theorem ofBR_bad {b : BR} {e : Nat} (h : ofBR b = .bad e) : b = .bad e := by
  cases b with
  | bad e' => injection h with h; rw [h]
  | ok s r => cases h
theorem bracket_err {r : List Nat} {e : Nat} (hb : bracket cls r = .bad e) : e ≠ 0 := by
  unfold bracket at hb
  split at hb
  · rename_i e' he
    injection hb with hb
    rw [← hb]
    split at he
    · exact items_err _ _ _ _ _ he
    · exact items_err _ _ _ _ _ he
  · rename_i s' rest' he
    simp only at hb
    by_cases h0 : (if r.head? = some 94 then ~~~s' else s') = 0
    · rw [if_pos h0] at hb; injection hb with hb; omega
    · rw [if_neg h0] at hb; cases hb
theorem tokOf_err {x : Nat} {r : List Nat} {e : Nat} (h : tokOf cls x r = .bad e) : e ≠ 0 := by
  unfold tokOf at h
  by_cases h42 : x = 42
  · rw [if_pos h42] at h; cases h
  rw [if_neg h42] at h
  by_cases h43 : x = 43
  · rw [if_pos h43] at h; cases h
  rw [if_neg h43] at h
  by_cases h63 : x = 63
  · rw [if_pos h63] at h; cases h
  rw [if_neg h63] at h
  by_cases h123 : x = 123
  · rw [if_pos h123] at h; exact often_err h
  rw [if_neg h123] at h
  by_cases h40 : x = 40
  · rw [if_pos h40] at h; split at h <;> cases h
  rw [if_neg h40] at h
  by_cases h41 : x = 41
  · rw [if_pos h41] at h; cases h
  rw [if_neg h41] at h
  by_cases h124 : x = 124
  · rw [if_pos h124] at h; cases h
  rw [if_neg h124] at h
  by_cases h94 : x = 94
  · rw [if_pos h94] at h; cases h
  rw [if_neg h94] at h
  by_cases h36 : x = 36
  · rw [if_pos h36] at h; cases h
  rw [if_neg h36] at h
  by_cases h46 : x = 46
  · rw [if_pos h46] at h; cases h
  rw [if_neg h46] at h
  by_cases h92 : x = 92
  · rw [if_pos h92] at h; exact escape_err h
  rw [if_neg h92] at h
  by_cases h91 : x = 91
  · rw [if_pos h91] at h; exact bracket_err (ofBR_bad h)
  rw [if_neg h91] at h
  cases h
/-- what Cut hands back -/
def CutPost (w : World) (n : Nat) : Option (Nat × Nat) × List (Tok × Nat) → Ending → World → Prop
  | (some p, _), e, w' => e = .returned (.tuple #[.slice none 0 0, .int .i64 (p.1 : Nat), .int .i64 (p.2 : Nat)]) ∧ Below w.heap.size w w'
  | (none, L), e, w' => ∃ v, e = .returned (.tuple #[v, .int .i64 n, .int .i64 0]) ∧ w'.ownsRow w.heap.size 135 8 v L.length (tokCells L) ∧ Below w.heap.size w w'
/-- what the loop of Cut holds -/
structure InCut (s : ByteArray) (w : World) (C : Option (Nat × Nat) × List (Tok × Nat)) (x : Nat) (r : List Nat) (toks : List (Tok × Nat)) (v : Value) (fuel : Nat) (wr : World) : Prop where
  drop : (nats s).drop x = r
  le : x ≤ s.size
  room : r.length < fuel
  eq : C = ((cutFrom cls fuel x r).1, toks ++ (cutFrom cls fuel x r).2)
  few : toks.length ≤ x
  own : wr.ownsRow w.heap.size 135 8 v toks.length (tokCells toks)
  below : Below w.heap.size w wr
theorem ret_cut {v : Value} {a b c d : Int} (h : a = b) (h' : c = d) : Ending.returned (.tuple #[v, .int .i64 a, .int .i64 c]) = .returned (.tuple #[v, .int .i64 b, .int .i64 d]) := by rw [h, h']
set_option maxHeartbeats 4000000 in
theorem cut_walk (s : ByteArray) (hs : s.size ≤ 1024) (w : World) (hm : MaxAt w) :
    Calls Tryz.prog 53 #[.string s] w (CutPost w s.size (cutAll cls (nats s))) := by
  obtain ⟨i0, hi, hz0, hz1, hz2⟩ := info_parts info_tok
  obtain ⟨C, hC⟩ : ∃ C, C = cutAll cls (nats s) := ⟨_, rfl⟩
  rw [← hC]
  have HC := Lib.hid hC
  clear hC
  have hs1 : (s.size : Int) ≤ 1024 := by omega
  go_enter Tryz.func53, Tryz.ntmps53
  go_wp2
  all_goals try omega
  go_loopw [5, 6] (fun v i wr => ∃ x r toks fuel, i = .int .i64 (x : Nat) ∧ InCut s w C x r toks v fuel wr) (fun _ i _ => s.size + 1 - (intOf i).toNat)
  case atStart => exact ⟨0, nats s, [], (nats s).length + 1, rfl, rfl, Nat.zero_le _, by omega, by rw [HC.out]; rfl, Nat.le_refl _, World.ownsRow_nil _ _ _ _, Below.refl _ _⟩
  case round =>
    obtain ⟨x, r, toks, fuel, rfl, hI⟩ := hrel
    have hx := hI.le
    have hmr := maxAt_below hm hI.below
    have Hown := Lib.hid hI.own
    have hlen : r.length = s.size - x := by rw [← hI.drop, List.length_drop, nats_length]
    cases r with
    | nil =>
      have hxs : s.size ≤ x := by simp at hlen; omega
      have hCe : C = (none, toks) := by rw [hI.eq]; cases fuel <;> simp [cutFrom]
      have hB := hI.below
      have hown := hI.own
      clear hI HC
      subst hCe
      have Hown := Lib.hid hown
      clear hown
      go_wp2
      all_goals try omega
      refine bodyPost_ret (by simp [results, Tryz.results53, go_sem]) rfl ⟨_, rfl, Hown.out, hB⟩
    | cons c r' =>
      have hxl : x < s.size := by simp at hlen; omega
      have hxi : (x : Int) ≤ s.size := by omega
      have hex : nats (s.extract x s.size) = c :: r' := by rw [nats_extract, hI.drop]
      have hes : (s.extract x s.size).size = r'.length + 1 := by rw [← nats_length, hex, lenCons]
      rw [lenCons] at hlen
      have hcall := next_q _ c r' hex (by omega) wr hmr
      rw [hes] at hcall
      have hb := hI.below
      have heq := hI.eq
      have hroom := hI.room
      rw [lenCons] at hroom
      have hfew := hI.few
      have hdrop := hI.drop
      clear hex hes hI
      cases ht : tokOf cls c r' with
      | bad e =>
        rw [ht, nextV_bad] at hcall
        have he0 : ((e : Int) != 0) = true := by have := tokOf_err ht; rw [bne_iff_ne]; omega
        have hCe : C = (some (x, e), toks) := by
          rw [heq]
          cases fuel with
          | zero => omega
          | succ f => rw [cut_stop ht]; simp
        clear heq ht HC Hown hdrop
        subst hCe
        go_wp2_with (first
          | (go_at_call 80; refine hcall.mono ?_; rintro e w3 ⟨rfl, hb3⟩; have B3 := hb.trans (hb3.mono hb.size))
          | fail)
        all_goals try omega
        refine bodyPost_ret (v := .tuple #[.slice none 0 0, .int .i64 x, .int .i64 e]) (by simp [results, Tryz.results53, go_sem]) rfl ⟨rfl, ?_⟩
        refine Below.alloc ?_ B3.size _
        exact B3
      | ok t rest =>
        have hsuf := tokOf_suf cls c r' t rest ht
        have hle := hsuf.length_le
        obtain ⟨n, hn⟩ : ∃ n, n = r'.length + 1 - rest.length := ⟨_, rfl⟩
        rw [ht] at hcall
        rw [show nextV (r'.length + 1) (.ok t rest) = .tuple #[tokV t 0, .int .i64 (n : Nat), .int .i64 0] from by rw [hn]; rfl] at hcall
        have hnext : (nats s).drop (x + n) = rest := by
          have := suf_drop hdrop (hsuf.trans (List.suffix_cons _ _)) (by rw [nats_length]; omega)
          rw [nats_length] at this
          rw [show x + n = s.size - rest.length from by omega]; exact this
        have hCe : C = ((cutFrom cls (fuel - 1) (x + n) rest).1, (toks ++ [(t, x)]) ++ (cutFrom cls (fuel - 1) (x + n) rest).2) := by
          rw [heq]
          cases fuel with
          | zero => omega
          | succ f => rw [cut_step ht, ← hn]; simp
        have hnew : ∀ v' w', w'.ownsRow w.heap.size 135 8 v' (toks.length + 1) (tokCells toks ++ tokCells [(t, x)]) → Below w.heap.size w w' → InCut s w C (x + n) rest (toks ++ [(t, x)]) v' (fuel - 1) w' :=
          fun v' w' g1 g2 => ⟨hnext, by omega, by omega, hCe, by simp; omega, by rw [tokCells_append, List.length_append]; exact g1, g2⟩
        have hnb : n ≤ 1024 := by omega
        have hn0 : 0 < n := by omega
        have hxb : x ≤ 1024 := by omega
        clear heq HC hdrop hnext hCe ht hsuf hle hn
        go_wp2_with (first
          | (go_at_call 80; refine hcall.mono ?_; rintro e w3 ⟨rfl, hb3⟩; have B3 := hb.trans (hb3.mono hb.size); have Hown3 := Lib.hid (owns_below Hown.out hb3); have hz3 := B3.size)
          | (at_builtin; refine wpList_append_own _ rfl _ _ 99 rfl w.heap.size 135 i0 (.agg #[.int .i64 0, .int .u64 0, .int .u64 0, .int .u64 0, .int .u64 0, .int .i64 0, .int .i64 0, .int .i64 0]) 8 64 Tryz.underlying99 hi hz0 hz1 hz2 rfl (by decide) _ _ _ rfl ((Hown3.out.alloc _).alloc _) ⟨w3.heap.size + 1, 0, none⟩ 1 1 [.int .i64 t.kind, .int .u64 (word t.set 0 : Int), .int .u64 (word t.set 1 : Int), .int .u64 (word t.set 2 : Int), .int .u64 (word t.set 3 : Int), .int .i64 t.lo, .int .i64 t.hi, .int .i64 x] rfl rfl ?c1 ?c2 ?c3 ?c4 ?c5 ?_)
          | fail)
        case c1 => exact toks_eight _ _ (by simp) _ _ _ _ _ _ _ _ _
        case c2 => intro u hu; simp at hu; rcases hu with rfl | rfl | rfl | rfl | rfl | rfl | rfl | rfl <;> rfl
        case c3 => unfold maxLen; omega
        case c4 => omega
        case c5 => simp; omega
        intro v' w6 hown6 hgrow _
        have hn6 := ((B3.alloc B3.size _).alloc (by simp; omega) _).grown hgrow (by simp; omega) (fun k hk => (Hown3.out.lt k hk).1)
        have hfin := Lib.hid (hnew v' w6 hown6 hn6)
        clear hown6 hgrow hn6 hnew Hown Hown3 hb3
        go_wp2_with fail
        go_roundw
        case rel => exact ⟨x + n, _, _, _, by go_num, hfin.out⟩
        case measure => simp [intOf]; omega
set_option maxHeartbeats 1000000 in
theorem cut_large (s : ByteArray) (hs : 1024 < s.size) (w : World) :
    Calls Tryz.prog 53 #[.string s] w fun e w' => e = .returned (.tuple #[.slice none 0 0, .int .i64 1024, .int .i64 4]) ∧ Below w.heap.size w w' := by
  have hs1 : (1024 : Int) < s.size := by omega
  go_enter Tryz.func53, Tryz.ntmps53
  go_wp2
  all_goals try omega
  refine bodyPost_ret (v := .tuple #[.slice none 0 0, .int .i64 1024, .int .i64 4]) (by simp [results, Tryz.results53, go_sem]) rfl ⟨rfl, Below.refl _ _⟩
end Go.Proofs.YtlgpbgcheeaalaaGreatDoor
/-! '==' on tokens; tokens in memory. -/
namespace Go.Proofs.YtlgpbgcheeaalaaGreatDoor
set_option maxRecDepth 100000
open Go.RowKit
theorem part_set (x0 x1 x2 x3 x4 x5 x6 x7 : Value) (w : World) : (part 27 #[x0, x1, x2, x3, x4, x5, x6, x7] 1).run Tryz.prog w = .ok (.agg #[x1, x2, x3, x4]) w := by kernel_rfl
theorem agg_int (w : World) : (isAgg 3).run Tryz.prog w = .ok false w := by kernel_rfl
theorem eql_set_at (d : Nat) (s : BitVec 256) (w : World) : (Op.equalIn (d + 2) 27 (SV s) (SV s)).run Tryz.prog w = .ok true w := by
  obtain ⟨i0, hi, hz0, hz1, hz2⟩ := info_parts info_u64
  have hc : Tryz.prog.cellsOf 25 = 1 := by kernel_rfl
  rw [run_equalIn_array w (d + 1) _ _ Tryz.underlying27 hi, hc]
  have hr : List.range 4 = [0, 1, 2, 3] := rfl
  rw [hr, run_eqItems (agg_u64 w) (fun i => .int .u64 (word s i)) (fun i => .int .u64 (word s i)) (fun i => (word s i : Int) == (word s i : Int))]
  · congr 1; simp
  · intro i hi; simp at hi; rcases hi with rfl | rfl | rfl | rfl <;> rfl
  · intro i hi; simp at hi; rcases hi with rfl | rfl | rfl | rfl <;> rfl
  · intro i _; exact run_equalIn_int _ d _ _ _ _ _ Tryz.underlying25
theorem int_same (d : Nat) (a : Int) (w : World) : (Op.equalIn (d + 1) 3 (.int .i64 a) (.int .i64 a)).run Tryz.prog w = .ok true w := by
  rw [run_equalIn_int w d _ _ _ _ _ Tryz.underlying3]; simp
theorem eql_tok (t : Tok) (a : Int) (w : World) : (Op.equalIn 10000 135 (tokV t a) (tokV t a)).run Tryz.prog w = .ok true w := by
  rw [show (10000 : Nat) = 9999 + 1 from rfl, run_equalIn_struct w 9999 _ _ _ (by kernel_rfl) (by kernel_rfl)]
  have e3 := fun a => int_same 9998 a w
  have e32 := eql_set_at 9997 t.set w
  have p0 := run_part_cell (P := Tryz.prog) (e := 3) (xs := #[.int .i64 t.kind, .int .u64 (word t.set 0), .int .u64 (word t.set 1), .int .u64 (word t.set 2), .int .u64 (word t.set 3), .int .i64 t.lo, .int .i64 t.hi, .int .i64 a]) (i := 0) w (agg_int w) rfl
  have p5 := run_part_cell (P := Tryz.prog) (e := 3) (xs := #[.int .i64 t.kind, .int .u64 (word t.set 0), .int .u64 (word t.set 1), .int .u64 (word t.set 2), .int .u64 (word t.set 3), .int .i64 t.lo, .int .i64 t.hi, .int .i64 a]) (i := 5) w (agg_int w) rfl
  have p6 := run_part_cell (P := Tryz.prog) (e := 3) (xs := #[.int .i64 t.kind, .int .u64 (word t.set 0), .int .u64 (word t.set 1), .int .u64 (word t.set 2), .int .u64 (word t.set 3), .int .i64 t.lo, .int .i64 t.hi, .int .i64 a]) (i := 6) w (agg_int w) rfl
  have p7 := run_part_cell (P := Tryz.prog) (e := 3) (xs := #[.int .i64 t.kind, .int .u64 (word t.set 0), .int .u64 (word t.set 1), .int .u64 (word t.set 2), .int .u64 (word t.set 3), .int .i64 t.lo, .int .i64 t.hi, .int .i64 a]) (i := 7) w (agg_int w) rfl
  have p1 := part_set (.int .i64 t.kind) (.int .u64 (word t.set 0)) (.int .u64 (word t.set 1)) (.int .u64 (word t.set 2)) (.int .u64 (word t.set 3)) (.int .i64 t.lo) (.int .i64 t.hi) (.int .i64 a) w
  simp [Program.fieldsOf, Tryz.underlying135, Op.eqFields, p0, p1, p5, p6, p7, e3, e32]
/-- at b, off lies a token -/
def Tok8 (w : World) (b off : Nat) (t : Tok) (a : Int) : Prop :=
  ∀ (j : Nat) v, [Value.int .i64 t.kind, .int .u64 (word t.set 0), .int .u64 (word t.set 1), .int .u64 (word t.set 2), .int .u64 (word t.set 3), .int .i64 t.lo, .int .i64 t.hi, .int .i64 a][j]? = some v → w.cell? ⟨b, off + j, none⟩ = some v
theorem infoTok : (Tryz.prog.info? 135).map (·.size) = some 8 := by kernel_rfl
theorem loadTok {w : World} {b off : Nat} {t : Tok} {a : Int} (h : Tok8 w b off t a) : (loadVar 135 ⟨b, off, none⟩).run Tryz.prog w = .ok (tokV t a) w := by
  have hl := run_loadCells_list (P := Tryz.prog) w ⟨b, off, none⟩ [Value.int .i64 t.kind, .int .u64 (word t.set 0), .int .u64 (word t.set 1), .int .u64 (word t.set 2), .int .u64 (word t.set 3), .int .i64 t.lo, .int .i64 t.hi, .int .i64 a] (fun j v hv => by
    rw [addr_at]; exact h j v hv)
  have hi := infoTok
  cases hq : Tryz.prog.info? 135 with
  | none => simp [hq] at hi
  | some i =>
    have hs : i.size = 8 := by simpa [hq] using hi
    have hagg : (isAgg 135).run Tryz.prog w = .ok true w := by
      unfold isAgg
      rw [Sem.run_bind, run_underlying Tryz.underlying135 w]
      rfl
    simp only [List.length_cons, List.length_nil] at hl
    simp [loadVar, Sem.run_bind, hagg, sizeOf, typeInfo, hq, hs, hl]
theorem wpList_load_tok {ops : Array Oper} {rest : List Oper} {o : Oper} {a : Act} {w : World} {Q : Exit → Act → World → Prop} (hgd : o.guard = none) (x : Operand) (ho : o.op = .load 135 x)
    (b off : Nat) (t : Tok) (at_ : Int) (hx : a.eval x = .pointer (some ⟨b, off, none⟩)) (hc : Tok8 w b off t at_)
    (h : wpList Tryz.prog ops Q rest (a.put o.dst (tokV t at_)) w) : wpList Tryz.prog ops Q (o :: rest) a w :=
  wpList_plain hgd fun _ hK => by
    unfold Oper.wp execOp
    simp only [ho, hx, Instr.loadAt, Instr.sureAddr, Sem.run_bind, Sem.run_pure, Result.andThen_ok, loadTok hc]
    exact hK _ _ h
theorem quiet_load_tok {o : Oper} {a : Act} {C : World → Prop} {K : Act → Prop} (x : Operand) (ho : o.op = .load 135 x) (b off : Nat) (t : Tok) (at_ : Int) (hx : a.eval x = .pointer (some ⟨b, off, none⟩))
    (h : ∀ w, C w → Tok8 w b off t at_) (hK : K (a.put o.dst (tokV t at_))) : o.quiet Tryz.prog a C K :=
  ⟨tokV t at_, fun w hw => by
    unfold Oper.quietAt execOp
    simp only [ho, hx, Instr.loadAt, Instr.sureAddr, Sem.run_bind, Sem.run_pure, Result.andThen_ok, loadTok (h w hw)]
    exact ⟨rfl, rfl⟩, hK⟩
theorem Tok8.below {B : Nat} {w w' : World} {b off : Nat} {t : Tok} {a : Int} (h : Tok8 w b off t a) (hb : Below B w w') (hlt : b < B) : Tok8 w' b off t a :=
  fun q v hq => by rw [hb.cell (p := ⟨b, off + q, none⟩) hlt]; exact h q v hq
/-- a list of tokens that the call made -/
def ToksAt (w : World) (v : Value) (L : List (Tok × Nat)) : Prop :=
  ∃ a cap, v = .slice a L.length cap ∧ (L = [] ∨ ∃ g, a = some ⟨g, 0, none⟩ ∧ L.length ≤ cap ∧ g < w.heap.size ∧ ∀ j (hj : j < L.length), Tok8 w g (j * 8) (L[j]).1 ((L[j]).2 : Nat))
theorem tokCells_at (L : List (Tok × Nat)) (j : Nat) (hj : j < L.length) (q : Nat) (v : Value)
    (hv : [Value.int .i64 L[j].1.kind, .int .u64 (word L[j].1.set 0), .int .u64 (word L[j].1.set 1), .int .u64 (word L[j].1.set 2), .int .u64 (word L[j].1.set 3), .int .i64 L[j].1.lo, .int .i64 L[j].1.hi, .int .i64 (L[j].2 : Nat)][q]? = some v) : (tokCells L)[j * 8 + q]? = some v := by
  have hq : q < 8 := by
    have := (List.getElem?_eq_some_iff.mp hv).1
    simpa using this
  induction L generalizing j with
  | nil => simp at hj
  | cons p L ih =>
    have e : tokCells (p :: L) = [Value.int .i64 p.1.kind, .int .u64 (word p.1.set 0), .int .u64 (word p.1.set 1), .int .u64 (word p.1.set 2), .int .u64 (word p.1.set 3), .int .i64 p.1.lo, .int .i64 p.1.hi, .int .i64 (p.2 : Nat)] ++ tokCells L := rfl
    rw [e]
    cases j with
    | zero =>
      rw [Nat.zero_mul, Nat.zero_add, List.getElem?_append_left (by simpa using hq)]
      exact hv
    | succ j =>
      rw [List.getElem?_append_right (by simp; omega)]
      have := ih j (by simpa using hj) hv
      rw [show (j + 1) * 8 + q - _ = j * 8 + q from by simp; omega]
      exact this
theorem toksAt_of_owns {w : World} {base : Nat} {v : Value} {L : List (Tok × Nat)} (h : w.ownsRow base 135 8 v L.length (tokCells L)) : ToksAt w v L := by
  obtain ⟨a, cap, rfl⟩ := owns_form h
  have hrow := h.2
  rcases hrow with ⟨h1, h0⟩ | ⟨g, c, cur, hv, hg, hblk, hnc, hcm, _⟩
  · refine ⟨_, _, by injection h1 with e1 e2 e3; rfl, .inl (List.length_eq_zero_iff.mp h0)⟩
  · cases hv
    refine ⟨_, _, rfl, .inr ⟨g, rfl, hnc, lt_of_block hblk, fun j hj q v hq => ?_⟩⟩
    have hq8 : q < 8 := by
      have := (List.getElem?_eq_some_iff.mp hq).1
      simpa using this
    rw [h.cellAt _ (by omega)]
    exact tokCells_at L j hj q v hq
theorem ToksAt.below {B : Nat} {w w' : World} {v : Value} {L : List (Tok × Nat)} (h : ToksAt w v L) (hb : Below B w w') (hB : B = w.heap.size) : ToksAt w' v L := by
  obtain ⟨a, cap, e, h⟩ := h
  refine ⟨a, cap, e, ?_⟩
  rcases h with h | ⟨g, e1, e2, e3, e4⟩
  · exact .inl h
  · exact .inr ⟨g, e1, e2, Nat.lt_of_lt_of_le e3 hb.size, fun j hj => (e4 j hj).below hb (by omega)⟩
/-- Cut at a text that is one: its tokens -/
theorem cut_good (s : ByteArray) (hs : s.size ≤ 1024) (L : List (Tok × Nat)) (hc : cutAll cls (nats s) = (none, L)) (w : World) (hm : MaxAt w) :
    Calls Tryz.prog 53 #[.string s] w fun e w' => ∃ v, e = .returned (.tuple #[v, .int .i64 s.size, .int .i64 0]) ∧ ToksAt w' v L ∧ Below w.heap.size w w' := by
  have := cut_walk s hs w hm
  rw [hc] at this
  exact this.mono fun e w' ⟨v, h1, h2, h3⟩ => ⟨v, h1, toksAt_of_owns h2, h3⟩
/-- Cut at a text that is none: where, and why -/
theorem cut_refused (s : ByteArray) (hs : s.size ≤ 1024) (p : Nat × Nat) (L : List (Tok × Nat)) (hc : cutAll cls (nats s) = (some p, L)) (w : World) (hm : MaxAt w) :
    Calls Tryz.prog 53 #[.string s] w fun e w' => e = .returned (.tuple #[.slice none 0 0, .int .i64 (p.1 : Nat), .int .i64 (p.2 : Nat)]) ∧ Below w.heap.size w w' := by
  have := cut_walk s hs w hm
  rw [hc] at this
  exact this
end Go.Proofs.YtlgpbgcheeaalaaGreatDoor
