/- The plain mathematics of tokens: what the text at hand begins with; a whole text cut; texts one behind the other. cls: the classes by name. -/
import Derived.Test.YtjfenbjamlflcaaSetBuild
namespace Go.Proofs.Ytjfenbjamlflcaa
set_option maxRecDepth 100000
open Go.RowKit

/-- what an item of a bracket, or a whole bracket, comes to: an error, or a set and the text behind it -/
inductive BR where
  | bad (e : Nat)
  | ok (s : BitVec 256) (rest : List Nat)
/-- a class's name, up to ':]' -/
def classEnd : List Nat → Option (List Nat × List Nat)
  | [] => none
  | [_] => none
  | x :: y :: r => if x = 58 ∧ y = 93 then some ([], r) else (classEnd (y :: r)).map fun p => (x :: p.1, p.2)
def oneByte (x : Nat) : BitVec 256 := setOf [x]
/-- a byte, or a range: r is the text behind the byte x -/
def rangeOf (x : Nat) (r : List Nat) : BR :=
  match r with
  | 45 :: y :: r2 =>
    if y = 93 then .ok (oneByte x) r
    else if y = 91 ∧ (r2.head? = some 46 ∨ r2.head? = some 61) then .bad 3
    else if y = 91 ∧ r2.head? = some 58 ∨ y < x then .bad 2
    else .ok (setOf (upTo x y)) r2
  | [45] => .bad 2
  | _ => .ok (oneByte x) r
/-- a class: r is the text behind '[:' -/
def classItem (cls : List Nat → Option (BitVec 256)) (r : List Nat) : BR :=
  match classEnd r with
  | none => .bad 2
  | some (n, rest) =>
    match cls n with
    | none => .bad 2
    | some s => .ok s rest
/-- an item that begins with x; r is the text behind x -/
def item (cls : List Nat → Option (BitVec 256)) (first : Bool) (x : Nat) (r : List Nat) : BR :=
  if x = 91 ∧ (r.head? = some 46 ∨ r.head? = some 61) then .bad 3
  else if x = 91 ∧ r.head? = some 58 then classItem cls r.tail
  else if x = 45 ∧ first = false ∧ r.head? ≠ some 93 then .bad 2
  else rangeOf x r
def items (cls : List Nat → Option (BitVec 256)) : Nat → Bool → BitVec 256 → List Nat → BR
  | 0, _, _, _ => .bad 2
  | _ + 1, _, _, [] => .bad 2
  | f + 1, first, s, x :: r =>
    if x = 93 ∧ first = false then .ok s r
    else match item cls first x r with
      | .bad e => .bad e
      | .ok t rest => items cls f false (s ||| t) rest
/-- a bracket; q is the text behind '[' -/
def bracket (cls : List Nat → Option (BitVec 256)) (q : List Nat) : BR :=
  match (if q.head? = some 94 then items cls (q.length + 1) true 0 q.tail else items cls (q.length + 1) true 0 q) with
  | .bad e => .bad e
  | .ok s rest =>
    let t := if q.head? = some 94 then ~~~s else s
    if t = 0 then .bad 2 else .ok t rest
/-- a token, but for where it lies -/
structure Tok where
  kind : Nat
  set : BitVec 256
  lo : Int
  hi : Int
inductive TR where
  | bad (e : Nat)
  | ok (t : Tok) (rest : List Nat)
def isDig (c : Nat) : Bool := decide (48 ≤ c) && decide (c ≤ 57)
def numOf (d : List Nat) : Nat := d.foldl (fun n c => 10 * n + (c - 48)) 0
/-- what '{' begins; q is the text behind it -/
def often (q : List Nat) : TR :=
  let d := q.takeWhile isDig
  if d = [] then .bad 2
  else if 255 < numOf d then .bad 4
  else match q.dropWhile isDig with
    | 125 :: r => .ok ⟨6, 0, numOf d, numOf d⟩ r
    | 44 :: 125 :: r => .ok ⟨6, 0, numOf d, -1⟩ r
    | 44 :: r =>
      let d2 := r.takeWhile isDig
      if d2 = [] then .bad 2
      else if 255 < numOf d2 then .bad 4
      else match r.dropWhile isDig with
        | 125 :: r2 => if numOf d2 < numOf d then .bad 2 else .ok ⟨6, 0, numOf d, numOf d2⟩ r2
        | _ => .bad 2
    | _ => .bad 2
def specials : List Nat := [46, 91, 93, 92, 40, 41, 42, 43, 63, 123, 125, 124, 94, 36, 45]
/-- what a backslash begins -/
def escape (q : List Nat) : TR :=
  match q with
  | [] => .bad 2
  | c :: r => if c ∈ specials then .ok ⟨1, oneByte c, 0, 0⟩ r else if 49 ≤ c ∧ c ≤ 57 then .bad 3 else .bad 2
def ofBR : BR → TR
  | .bad e => .bad e
  | .ok s rest => .ok ⟨1, s, 0, 0⟩ rest
/-- the token that x begins; r is the text behind x -/
def tokOf (cls : List Nat → Option (BitVec 256)) (x : Nat) (r : List Nat) : TR :=
  if x = 42 then .ok ⟨6, 0, 0, -1⟩ r
  else if x = 43 then .ok ⟨6, 0, 1, -1⟩ r
  else if x = 63 then .ok ⟨6, 0, 0, 1⟩ r
  else if x = 123 then often r
  else if x = 40 then (match r with
    | 63 :: 58 :: r2 => .ok ⟨3, 0, 0, 0⟩ r2
    | _ => .ok ⟨2, 0, 0, 0⟩ r)
  else if x = 41 then .ok ⟨4, 0, 0, 0⟩ r
  else if x = 124 then .ok ⟨5, 0, 0, 0⟩ r
  else if x = 94 then .ok ⟨7, 0, 0, 0⟩ r
  else if x = 36 then .ok ⟨8, 0, 0, 0⟩ r
  else if x = 46 then .ok ⟨1, BitVec.allOnes 256, 0, 0⟩ r
  else if x = 92 then escape r
  else if x = 91 then ofBR (bracket cls r)
  else .ok ⟨1, oneByte x, 0, 0⟩ r
/-- a text cut: the tokens with their places and no error, or the first error and its token's place -/
def cutFrom (cls : List Nat → Option (BitVec 256)) : Nat → Nat → List Nat → Option (Nat × Nat) × List (Tok × Nat)
  | 0, _, _ => (none, [])
  | _ + 1, _, [] => (none, [])
  | f + 1, at_, x :: r =>
    match tokOf cls x r with
    | .bad e => (some (at_, e), [])
    | .ok t rest =>
      let p := cutFrom cls f (at_ + ((r.length + 1) - rest.length)) rest
      (p.1, (t, at_) :: p.2)
def cutAll (cls : List Nat → Option (BitVec 256)) (q : List Nat) : Option (Nat × Nat) × List (Tok × Nat) := cutFrom cls (q.length + 1) 0 q

/-! what is left is an end of the text -/
theorem classEnd_suf : ∀ (q n rest : List Nat), classEnd q = some (n, rest) → rest <:+ q
  | [], _, _, h => by simp [classEnd] at h
  | [_], _, _, h => by simp [classEnd] at h
  | x :: y :: r, n, rest, h => by
    unfold classEnd at h
    split at h
    · simp at h; obtain ⟨_, rfl⟩ := h
      exact (List.suffix_cons _ _).trans (List.suffix_cons _ _)
    · simp only [Option.map_eq_some_iff] at h
      obtain ⟨p, hp, he⟩ := h
      have := classEnd_suf (y :: r) p.1 p.2 hp
      simp at he
      rw [he.2] at this
      exact this.trans (List.suffix_cons _ _)
theorem rangeOf_suf (x : Nat) (r : List Nat) (s : BitVec 256) (rest : List Nat) (h : rangeOf x r = .ok s rest) : rest <:+ r := by
  unfold rangeOf at h
  split at h
  · rename_i y r2
    split at h
    · cases h; exact List.suffix_refl _
    · split at h
      · cases h
      · split at h
        · cases h
        · cases h; exact (List.suffix_cons _ _).trans (List.suffix_cons _ _)
  · cases h
  · cases h; exact List.suffix_refl _
theorem classItem_suf (cls : List Nat → Option (BitVec 256)) (r : List Nat) (s : BitVec 256) (rest : List Nat) (h : classItem cls r = .ok s rest) : rest <:+ r := by
  unfold classItem at h
  split at h
  · cases h
  · rename_i n rest' he
    have hs := classEnd_suf _ _ _ he
    split at h
    · cases h
    · cases h; exact hs
theorem tail_suf (r : List Nat) : r.tail <:+ r := by
  cases r with
  | nil => exact List.suffix_refl _
  | cons x r => exact List.suffix_cons _ _
theorem item_suf (cls : List Nat → Option (BitVec 256)) (first : Bool) (x : Nat) (r : List Nat) (s : BitVec 256) (rest : List Nat) (h : item cls first x r = .ok s rest) : rest <:+ r := by
  unfold item at h
  split at h
  · cases h
  · split at h
    · exact (classItem_suf cls _ _ _ h).trans (tail_suf r)
    · split at h
      · cases h
      · exact rangeOf_suf _ _ _ _ h
theorem items_suf (cls : List Nat → Option (BitVec 256)) : ∀ (f : Nat) (first : Bool) (s : BitVec 256) (q : List Nat) (t : BitVec 256) (rest : List Nat), items cls f first s q = .ok t rest → rest <:+ q
  | 0, _, _, _, _, _, h => by simp [items] at h
  | f + 1, _, _, [], _, _, h => by simp [items] at h
  | f + 1, first, s, x :: r, t, rest, h => by
    unfold items at h
    split at h
    · cases h; exact List.suffix_cons _ _
    · split at h
      · cases h
      · rename_i u rest' he
        have h1 := item_suf cls first x r u rest' he
        have h2 := items_suf cls f false _ rest' t rest h
        exact (h2.trans h1).trans (List.suffix_cons _ _)
/-- a bracket that is one: its items, and that it holds a byte -/
theorem bracket_ok {cls : List Nat → Option (BitVec 256)} {q : List Nat} {t : BitVec 256} {rest : List Nat} (h : bracket cls q = .ok t rest) :
    ∃ s, (if q.head? = some 94 then items cls (q.length + 1) true 0 q.tail else items cls (q.length + 1) true 0 q) = .ok s rest ∧ t = (if q.head? = some 94 then ~~~s else s) ∧ t ≠ 0 := by
  unfold bracket at h
  split at h
  · cases h
  · rename_i s rest' he
    simp only at h
    by_cases h0 : (if q.head? = some 94 then ~~~s else s) = 0
    · rw [if_pos h0] at h; cases h
    · rw [if_neg h0] at h
      injection h with h1 h2
      exact ⟨s, by rw [he, h2], h1.symm, by rw [← h1]; exact h0⟩
theorem bracket_suf (cls : List Nat → Option (BitVec 256)) (q : List Nat) (t : BitVec 256) (rest : List Nat) (h : bracket cls q = .ok t rest) : rest <:+ q := by
  obtain ⟨s, he, _⟩ := bracket_ok h
  split at he
  · exact (items_suf cls _ _ _ _ _ _ he).trans (tail_suf q)
  · exact items_suf cls _ _ _ _ _ _ he
theorem often_suf (q : List Nat) (t : Tok) (rest : List Nat) (h : often q = .ok t rest) : rest <:+ q := by
  have hd := List.dropWhile_suffix isDig (l := q)
  unfold often at h
  simp only at h
  split at h
  · cases h
  · split at h
    · cases h
    · split at h
      · rename_i r he; cases h; rw [he] at hd; exact (List.suffix_cons _ _).trans hd
      · rename_i r he; cases h; rw [he] at hd; exact ((List.suffix_cons _ _).trans (List.suffix_cons _ _)).trans hd
      · rename_i r _ he
        have hd2 := List.dropWhile_suffix isDig (l := r)
        split at h
        · cases h
        · split at h
          · cases h
          · split at h
            · rename_i r2 he2
              split at h
              · cases h
              · cases h
                rw [he] at hd
                rw [he2] at hd2
                exact (((List.suffix_cons _ _).trans hd2).trans (List.suffix_cons _ _)).trans hd
            · cases h
      · cases h
theorem escape_suf (q : List Nat) (t : Tok) (rest : List Nat) (h : escape q = .ok t rest) : rest <:+ q := by
  unfold escape at h
  split at h
  · cases h
  · split at h
    · cases h; exact List.suffix_cons _ _
    · split at h <;> cases h
theorem ofBR_ok {b : BR} {t : Tok} {rest : List Nat} (h : ofBR b = .ok t rest) : ∃ s, b = .ok s rest ∧ t = ⟨1, s, 0, 0⟩ := by
  cases b with
  | bad e => cases h
  | ok s r => injection h with h1 h2; exact ⟨s, by rw [h2], h1.symm⟩
theorem open_suf (r : List Nat) (t : Tok) (rest : List Nat) (h : (match r with | 63 :: 58 :: r2 => TR.ok ⟨3, 0, 0, 0⟩ r2 | _ => TR.ok ⟨2, 0, 0, 0⟩ r) = .ok t rest) : rest <:+ r := by
  split at h
  · cases h; exact (List.suffix_cons _ _).trans (List.suffix_cons _ _)
  · cases h; exact List.suffix_refl _
theorem tokOf_suf (cls : List Nat → Option (BitVec 256)) (x : Nat) (r : List Nat) (t : Tok) (rest : List Nat) (h : tokOf cls x r = .ok t rest) : rest <:+ r := by
  unfold tokOf at h
  by_cases h42 : x = 42
  · rw [if_pos h42] at h; cases h; exact List.suffix_refl _
  rw [if_neg h42] at h
  by_cases h43 : x = 43
  · rw [if_pos h43] at h; cases h; exact List.suffix_refl _
  rw [if_neg h43] at h
  by_cases h63 : x = 63
  · rw [if_pos h63] at h; cases h; exact List.suffix_refl _
  rw [if_neg h63] at h
  by_cases h123 : x = 123
  · rw [if_pos h123] at h; exact often_suf _ _ _ h
  rw [if_neg h123] at h
  by_cases h40 : x = 40
  · rw [if_pos h40] at h; exact open_suf _ _ _ h
  rw [if_neg h40] at h
  by_cases h41 : x = 41
  · rw [if_pos h41] at h; cases h; exact List.suffix_refl _
  rw [if_neg h41] at h
  by_cases h124 : x = 124
  · rw [if_pos h124] at h; cases h; exact List.suffix_refl _
  rw [if_neg h124] at h
  by_cases h94 : x = 94
  · rw [if_pos h94] at h; cases h; exact List.suffix_refl _
  rw [if_neg h94] at h
  by_cases h36 : x = 36
  · rw [if_pos h36] at h; cases h; exact List.suffix_refl _
  rw [if_neg h36] at h
  by_cases h46 : x = 46
  · rw [if_pos h46] at h; cases h; exact List.suffix_refl _
  rw [if_neg h46] at h
  by_cases h92 : x = 92
  · rw [if_pos h92] at h; exact escape_suf _ _ _ h
  rw [if_neg h92] at h
  by_cases h91 : x = 91
  · rw [if_pos h91] at h; obtain ⟨s, hs, _⟩ := ofBR_ok h; exact bracket_suf cls _ _ _ hs
  rw [if_neg h91] at h
  cases h; exact List.suffix_refl _
/-! what comes behind a token that is whole doesn't turn it -/
theorem head_append {r : List Nat} (b : List Nat) (h : r ≠ []) : (r ++ b).head? = r.head? := by
  cases r with
  | nil => exact absurd rfl h
  | cons x r => rfl
theorem tail_append {r : List Nat} (b : List Nat) (h : r ≠ []) : (r ++ b).tail = r.tail ++ b := by
  cases r with
  | nil => exact absurd rfl h
  | cons x r => rfl
theorem classEnd_append (b : List Nat) : ∀ (q n rest : List Nat), classEnd q = some (n, rest) → classEnd (q ++ b) = some (n, rest ++ b)
  | [], _, _, h => by simp [classEnd] at h
  | [_], _, _, h => by simp [classEnd] at h
  | x :: y :: r, n, rest, h => by
    unfold classEnd at h
    show classEnd (x :: y :: (r ++ b)) = _
    unfold classEnd
    by_cases hc : x = 58 ∧ y = 93
    · rw [if_pos hc] at h ⊢
      simp at h; obtain ⟨rfl, rfl⟩ := h; rfl
    · rw [if_neg hc] at h ⊢
      simp only [Option.map_eq_some_iff] at h
      obtain ⟨p, hp, he⟩ := h
      have := classEnd_append b (y :: r) p.1 p.2 hp
      rw [List.cons_append] at this
      simp at he
      rw [this, Option.map_some, he.1, he.2]
theorem rangeOf_other (x c : Nat) (t : List Nat) (hc : c ≠ 45) : rangeOf x (c :: t) = .ok (oneByte x) (c :: t) := by
  unfold rangeOf
  split
  · rename_i he; injection he with e1 _; exact absurd e1 hc
  · rename_i he; injection he with e1 _; exact absurd e1 hc
  · rfl
theorem rangeOf_append (b : List Nat) (x : Nat) (r : List Nat) (s : BitVec 256) (rest : List Nat) (h : rangeOf x r = .ok s rest) (h1 : rest ≠ []) : rangeOf x (r ++ b) = .ok s (rest ++ b) := by
  match r, h with
  | [], h => simp [rangeOf] at h; exact absurd h.2.symm (by simpa using h1)
  | [c], h =>
    have hc : c ≠ 45 := by rintro rfl; simp [rangeOf] at h
    rw [rangeOf_other x c [] hc] at h
    injection h with e1 e2
    subst e1 e2
    exact rangeOf_other x c b hc
  | c :: y :: r2, h =>
    show rangeOf x (c :: y :: (r2 ++ b)) = _
    by_cases hc : c = 45
    · subst hc
      simp only [rangeOf] at h ⊢
      by_cases hy : y = 93
      · rw [if_pos hy] at h ⊢; injection h with e1 e2; subst e1 e2; rfl
      · rw [if_neg hy] at h ⊢
        have hr2 : r2 ≠ [] := by
          rintro rfl
          split at h
          · cases h
          · split at h
            · cases h
            · injection h with e1 e2; exact h1 e2.symm
        rw [head_append b hr2]
        split at h
        · cases h
        · rename_i hh; rw [if_neg hh]
          split at h
          · cases h
          · rename_i hh2; rw [if_neg hh2]; injection h with e1 e2; subst e1 e2; rfl
    · rw [rangeOf_other x c _ hc] at h ⊢
      injection h with e1 e2; subst e1 e2; rfl
theorem classItem_append (b : List Nat) (cls : List Nat → Option (BitVec 256)) (r : List Nat) (s : BitVec 256) (rest : List Nat) (h : classItem cls r = .ok s rest) : classItem cls (r ++ b) = .ok s (rest ++ b) := by
  unfold classItem at h ⊢
  cases he : classEnd r with
  | none => rw [he] at h; cases h
  | some p =>
    obtain ⟨n, rest'⟩ := p
    rw [he] at h
    rw [classEnd_append b r n rest' he]
    simp only at h ⊢
    cases hc : cls n with
    | none => rw [hc] at h; cases h
    | some u =>
      rw [hc] at h
      simp only at h ⊢
      injection h with e1 e2; subst e1 e2; rfl
theorem item_append (b : List Nat) (cls : List Nat → Option (BitVec 256)) (first : Bool) (x : Nat) (r : List Nat) (s : BitVec 256) (rest : List Nat) (h : item cls first x r = .ok s rest) (h1 : rest ≠ []) :
    item cls first x (r ++ b) = .ok s (rest ++ b) := by
  have hr : r ≠ [] := by
    rintro rfl
    have := item_suf cls first x [] s rest h
    exact h1 (List.suffix_nil.1 this)
  unfold item at h ⊢
  rw [head_append b hr, tail_append b hr]
  split at h
  · cases h
  · rename_i ha; rw [if_neg ha]
    split at h
    · rename_i hb; rw [if_pos hb]; exact classItem_append b cls _ s rest h
    · rename_i hb; rw [if_neg hb]
      split at h
      · cases h
      · rename_i hc; rw [if_neg hc]; exact rangeOf_append b x r s rest h h1
theorem items_nil (cls : List Nat → Option (BitVec 256)) (f : Nat) (first : Bool) (s : BitVec 256) : items cls f first s [] = .bad 2 := by cases f <;> rfl
theorem items_dash (cls : List Nat → Option (BitVec 256)) (f : Nat) (s : BitVec 256) : items cls f false s [45] = .bad 2 := by
  cases f with
  | zero => rfl
  | succ f => simp [items, item]
theorem items_append (b : List Nat) (cls : List Nat → Option (BitVec 256)) : ∀ (f : Nat) (first : Bool) (s : BitVec 256) (q : List Nat) (t : BitVec 256) (rest : List Nat), items cls f first s q = .ok t rest → items cls f first s (q ++ b) = .ok t (rest ++ b)
  | 0, _, _, _, _, _, h => by simp [items] at h
  | f + 1, _, _, [], _, _, h => by simp [items] at h
  | f + 1, first, s, x :: r, t, rest, h => by
    rw [List.cons_append]
    unfold items at h ⊢
    by_cases hc : x = 93 ∧ first = false
    · rw [if_pos hc] at h ⊢; injection h with e1 e2; subst e1 e2; rfl
    · rw [if_neg hc] at h ⊢
      cases he : item cls first x r with
      | bad e => rw [he] at h; cases h
      | ok u rest' =>
        rw [he] at h
        simp only at h
        have h1 : rest' ≠ [] := by rintro rfl; rw [items_nil] at h; cases h
        rw [item_append b cls first x r u rest' he h1]
        exact items_append b cls f false _ rest' t rest h
theorem items_more (cls : List Nat → Option (BitVec 256)) : ∀ (f g : Nat) (first : Bool) (s : BitVec 256) (q : List Nat) (t : BitVec 256) (rest : List Nat), f ≤ g → items cls f first s q = .ok t rest → items cls g first s q = .ok t rest
  | 0, _, _, _, _, _, _, _, h => by simp [items] at h
  | f + 1, 0, _, _, _, _, _, hg, _ => by omega
  | f + 1, g + 1, _, _, [], _, _, _, h => by simp [items] at h
  | f + 1, g + 1, first, s, x :: r, t, rest, hg, h => by
    unfold items at h ⊢
    by_cases hc : x = 93 ∧ first = false
    · rw [if_pos hc] at h ⊢; exact h
    · rw [if_neg hc] at h ⊢
      cases he : item cls first x r with
      | bad e => rw [he] at h; cases h
      | ok u rest' =>
        rw [he] at h
        exact items_more cls f g false _ rest' t rest (by omega) h
theorem bracket_append (b : List Nat) (cls : List Nat → Option (BitVec 256)) (q : List Nat) (t : BitVec 256) (rest : List Nat) (h : bracket cls q = .ok t rest) : bracket cls (q ++ b) = .ok t (rest ++ b) := by
  obtain ⟨s, he, ht, h0⟩ := bracket_ok h
  have hq : q ≠ [] := by
    rintro rfl
    simp [items] at he
  have he' : (if (q ++ b).head? = some 94 then items cls ((q ++ b).length + 1) true 0 (q ++ b).tail else items cls ((q ++ b).length + 1) true 0 (q ++ b)) = .ok s (rest ++ b) := by
    rw [head_append b hq, tail_append b hq]
    split at he
    · rename_i hh; rw [if_pos hh]
      exact items_append b cls _ _ _ _ _ _ (items_more cls _ _ _ _ _ _ _ (by simp) he)
    · rename_i hh; rw [if_neg hh]
      exact items_append b cls _ _ _ _ _ _ (items_more cls _ _ _ _ _ _ _ (by simp) he)
  unfold bracket
  rw [he', head_append b hq]
  simp only
  rw [← ht, if_neg h0]
theorem dig_append (b : List Nat) : ∀ (q : List Nat), q.dropWhile isDig ≠ [] → (q ++ b).takeWhile isDig = q.takeWhile isDig ∧ (q ++ b).dropWhile isDig = q.dropWhile isDig ++ b
  | [], h => by simp at h
  | x :: q, h => by
    rw [List.cons_append]
    by_cases hx : isDig x = true
    · rw [List.dropWhile_cons_of_pos hx] at h
      obtain ⟨h1, h2⟩ := dig_append b q h
      rw [List.takeWhile_cons_of_pos hx, List.takeWhile_cons_of_pos hx, List.dropWhile_cons_of_pos hx, List.dropWhile_cons_of_pos hx, h1, h2]
      exact ⟨rfl, rfl⟩
    · rw [List.takeWhile_cons_of_neg hx, List.takeWhile_cons_of_neg hx, List.dropWhile_cons_of_neg hx, List.dropWhile_cons_of_neg hx]
      exact ⟨rfl, rfl⟩
theorem count_ok (m : Nat) (q : List Nat) (t : Tok) (rest : List Nat) (h : (match q with
    | 125 :: r => TR.ok ⟨6, 0, m, m⟩ r
    | 44 :: 125 :: r => TR.ok ⟨6, 0, m, -1⟩ r
    | 44 :: r =>
      let d2 := r.takeWhile isDig
      if d2 = [] then TR.bad 2
      else if 255 < numOf d2 then TR.bad 4
      else match r.dropWhile isDig with
        | 125 :: r2 => if numOf d2 < m then TR.bad 2 else TR.ok ⟨6, 0, m, numOf d2⟩ r2
        | _ => TR.bad 2
    | _ => TR.bad 2) = .ok t rest) (b : List Nat) : q ≠ [] ∧ (match q ++ b with
    | 125 :: r => TR.ok ⟨6, 0, m, m⟩ r
    | 44 :: 125 :: r => TR.ok ⟨6, 0, m, -1⟩ r
    | 44 :: r =>
      let d2 := r.takeWhile isDig
      if d2 = [] then TR.bad 2
      else if 255 < numOf d2 then TR.bad 4
      else match r.dropWhile isDig with
        | 125 :: r2 => if numOf d2 < m then TR.bad 2 else TR.ok ⟨6, 0, m, numOf d2⟩ r2
        | _ => TR.bad 2
    | _ => TR.bad 2) = .ok t (rest ++ b) := by
  split at h
  · cases h; exact ⟨by simp, rfl⟩
  · cases h; exact ⟨by simp, rfl⟩
  · rename_i r hne
    refine ⟨by simp, ?_⟩
    simp only at h
    by_cases hd : r.takeWhile isDig = []
    · rw [if_pos hd] at h; cases h
    rw [if_neg hd] at h
    by_cases h255 : 255 < numOf (r.takeWhile isDig)
    · rw [if_pos h255] at h; cases h
    rw [if_neg h255] at h
    have hdrop : r.dropWhile isDig ≠ [] := by
      intro e; rw [e] at h; simp at h
    obtain ⟨e1, e2⟩ := dig_append b r hdrop
    cases r with
    | nil => simp at hd
    | cons c r' =>
      have hc : c ≠ 125 := fun e => hne r' (by rw [e])
      show (match 44 :: c :: (r' ++ b) with
        | 125 :: r => TR.ok ⟨6, 0, m, m⟩ r
        | 44 :: 125 :: r => TR.ok ⟨6, 0, m, -1⟩ r
        | 44 :: r =>
          let d2 := r.takeWhile isDig
          if d2 = [] then TR.bad 2
          else if 255 < numOf d2 then TR.bad 4
          else match r.dropWhile isDig with
            | 125 :: r2 => if numOf d2 < m then TR.bad 2 else TR.ok ⟨6, 0, m, numOf d2⟩ r2
            | _ => TR.bad 2
        | _ => TR.bad 2) = _
      split
      · rename_i he; injection he with he1 _; omega
      · rename_i he; injection he with _ he2; injection he2 with he3 _; exact absurd he3 hc
      · rename_i r3 _ he
        injection he with _ he2
        subst he2
        simp only
        rw [← List.cons_append, e1, e2, if_neg hd, if_neg h255]
        cases hq : (c :: r').dropWhile isDig with
        | nil => exact absurd hq hdrop
        | cons y r4 =>
          rw [hq] at h
          rw [List.cons_append]
          by_cases hy : y = 125
          · subst hy
            simp only at h ⊢
            split at h
            · cases h
            · rename_i hh; rw [if_neg hh]; cases h; rfl
          · split at h
            · rename_i he; injection he with he1 _; exact absurd he1 hy
            · cases h
      · rename_i _ _ h3; exact absurd rfl (h3 _)
  · cases h
theorem often_append (b : List Nat) (q : List Nat) (t : Tok) (rest : List Nat) (h : often q = .ok t rest) : often (q ++ b) = .ok t (rest ++ b) := by
  unfold often at h ⊢
  simp only at h ⊢
  by_cases hd : q.takeWhile isDig = []
  · rw [if_pos hd] at h; cases h
  rw [if_neg hd] at h
  by_cases h255 : 255 < numOf (q.takeWhile isDig)
  · rw [if_pos h255] at h; cases h
  rw [if_neg h255] at h
  obtain ⟨h1, h2⟩ := count_ok (numOf (q.takeWhile isDig)) _ t rest h b
  obtain ⟨e1, e2⟩ := dig_append b q h1
  rw [e1, if_neg hd, if_neg h255, e2]
  exact h2
theorem escape_append (b : List Nat) (q : List Nat) (t : Tok) (rest : List Nat) (h : escape q = .ok t rest) : escape (q ++ b) = .ok t (rest ++ b) := by
  cases q with
  | nil => simp [escape] at h
  | cons c r =>
    rw [List.cons_append]
    unfold escape at h ⊢
    simp only at h ⊢
    split at h
    · rename_i hc; rw [if_pos hc]; cases h; rfl
    · split at h <;> cases h
theorem open_append (b : List Nat) (r : List Nat) (t : Tok) (rest : List Nat) (h : (match r with | 63 :: 58 :: r2 => TR.ok ⟨3, 0, 0, 0⟩ r2 | _ => TR.ok ⟨2, 0, 0, 0⟩ r) = .ok t rest) (h1 : r ≠ []) (h2 : r ≠ [63]) :
    (match r ++ b with | 63 :: 58 :: r2 => TR.ok ⟨3, 0, 0, 0⟩ r2 | _ => TR.ok ⟨2, 0, 0, 0⟩ (r ++ b)) = .ok t (rest ++ b) := by
  match r, h with
  | [], _ => exact absurd rfl h1
  | [c], h =>
    have hc : c ≠ 63 := fun e => h2 (by rw [e])
    split at h
    · rename_i he; simp at he
    · cases h
      show (match c :: b with | 63 :: 58 :: r2 => TR.ok ⟨3, 0, 0, 0⟩ r2 | _ => TR.ok ⟨2, 0, 0, 0⟩ (c :: b)) = _
      split
      · rename_i he; injection he with e1 _; exact absurd e1 hc
      · rfl
  | c :: y :: r2, h =>
    show (match c :: y :: (r2 ++ b) with | 63 :: 58 :: r2 => TR.ok ⟨3, 0, 0, 0⟩ r2 | _ => TR.ok ⟨2, 0, 0, 0⟩ (c :: y :: (r2 ++ b))) = _
    split at h
    · rename_i r3 he
      injection he with e1 he2
      injection he2 with e2 e3
      subst e1 e2 e3
      cases h; rfl
    · rename_i hne
      cases h
      split
      · rename_i r3 he
        injection he with e1 he2
        injection he2 with e2 e3
        exact absurd (by rw [e1, e2]) (hne r2)
      · rfl
theorem tokOf_append (b : List Nat) (cls : List Nat → Option (BitVec 256)) (x : Nat) (r : List Nat) (t : Tok) (rest : List Nat) (h : tokOf cls x r = .ok t rest) (hp : x = 40 → r ≠ [] ∧ r ≠ [63]) : tokOf cls x (r ++ b) = .ok t (rest ++ b) := by
  unfold tokOf at h ⊢
  by_cases h42 : x = 42
  · rw [if_pos h42] at h ⊢; cases h; rfl
  rw [if_neg h42] at h ⊢
  by_cases h43 : x = 43
  · rw [if_pos h43] at h ⊢; cases h; rfl
  rw [if_neg h43] at h ⊢
  by_cases h63 : x = 63
  · rw [if_pos h63] at h ⊢; cases h; rfl
  rw [if_neg h63] at h ⊢
  by_cases h123 : x = 123
  · rw [if_pos h123] at h ⊢; exact often_append b _ _ _ h
  rw [if_neg h123] at h ⊢
  by_cases h40 : x = 40
  · rw [if_pos h40] at h ⊢; exact open_append b _ _ _ h (hp h40).1 (hp h40).2
  rw [if_neg h40] at h ⊢
  by_cases h41 : x = 41
  · rw [if_pos h41] at h ⊢; cases h; rfl
  rw [if_neg h41] at h ⊢
  by_cases h124 : x = 124
  · rw [if_pos h124] at h ⊢; cases h; rfl
  rw [if_neg h124] at h ⊢
  by_cases h94 : x = 94
  · rw [if_pos h94] at h ⊢; cases h; rfl
  rw [if_neg h94] at h ⊢
  by_cases h36 : x = 36
  · rw [if_pos h36] at h ⊢; cases h; rfl
  rw [if_neg h36] at h ⊢
  by_cases h46 : x = 46
  · rw [if_pos h46] at h ⊢; cases h; rfl
  rw [if_neg h46] at h ⊢
  by_cases h92 : x = 92
  · rw [if_pos h92] at h ⊢; exact escape_append b _ _ _ h
  rw [if_neg h92] at h ⊢
  by_cases h91 : x = 91
  · rw [if_pos h91] at h ⊢; obtain ⟨s, hs, ht⟩ := ofBR_ok h; rw [bracket_append b cls _ _ _ hs, ht]; rfl
  rw [if_neg h91] at h ⊢
  cases h; rfl
/-! a whole text: its fuel, its place, one text behind the other -/
theorem cut_fuel (cls : List Nat → Option (BitVec 256)) : ∀ (f g at_ : Nat) (q : List Nat), q.length < f → q.length < g → cutFrom cls f at_ q = cutFrom cls g at_ q
  | 0, _, _, _, h, _ => by omega
  | _ + 1, 0, _, _, _, h => by omega
  | f + 1, g + 1, at_, [], _, _ => rfl
  | f + 1, g + 1, at_, x :: r, h, h' => by
    unfold cutFrom
    cases ht : tokOf cls x r with
    | bad e => rfl
    | ok t rest =>
      have hs := (tokOf_suf cls x r t rest ht).length_le
      simp only [List.length_cons] at h h'
      simp only
      rw [cut_fuel cls f g _ rest (by omega) (by omega)]
def moveErr (d : Nat) (e : Option (Nat × Nat)) : Option (Nat × Nat) := e.map fun p => (p.1 + d, p.2)
def moveToks (d : Nat) (l : List (Tok × Nat)) : List (Tok × Nat) := l.map fun p => (p.1, p.2 + d)
theorem cut_shift (cls : List Nat → Option (BitVec 256)) (d : Nat) : ∀ (f at_ : Nat) (q : List Nat), cutFrom cls f (at_ + d) q = (moveErr d (cutFrom cls f at_ q).1, moveToks d (cutFrom cls f at_ q).2)
  | 0, _, _ => rfl
  | f + 1, at_, [] => rfl
  | f + 1, at_, x :: r => by
    unfold cutFrom
    cases ht : tokOf cls x r with
    | bad e => rfl
    | ok t rest =>
      simp only
      rw [show at_ + d + (r.length + 1 - rest.length) = at_ + (r.length + 1 - rest.length) + d from by omega, cut_shift cls d f _ rest]
      rfl
/-- a text that a token that begins another way could not go on from -/
def wholeEnd (q : List Nat) : Prop := ¬ [40] <:+ q ∧ ¬ [40, 63] <:+ q
theorem cut_step {cls : List Nat → Option (BitVec 256)} {x : Nat} {r : List Nat} {t : Tok} {rest : List Nat} (h : tokOf cls x r = .ok t rest) (f at_ : Nat) :
    cutFrom cls (f + 1) at_ (x :: r) = ((cutFrom cls f (at_ + (r.length + 1 - rest.length)) rest).1, (t, at_) :: (cutFrom cls f (at_ + (r.length + 1 - rest.length)) rest).2) := by
  rw [cutFrom, h]
theorem cut_stop {cls : List Nat → Option (BitVec 256)} {x : Nat} {r : List Nat} {e : Nat} (h : tokOf cls x r = .bad e) (f at_ : Nat) : cutFrom cls (f + 1) at_ (x :: r) = (some (at_, e), []) := by
  rw [cutFrom, h]
theorem cut_append (b : List Nat) (cls : List Nat → Option (BitVec 256)) : ∀ (f at_ : Nat) (q : List Nat) (F G : Nat), q.length < f → (q ++ b).length < F → b.length < G → (cutFrom cls f at_ q).1 = none → wholeEnd q →
    cutFrom cls F at_ (q ++ b) = ((cutFrom cls G (at_ + q.length) b).1, (cutFrom cls f at_ q).2 ++ (cutFrom cls G (at_ + q.length) b).2)
  | 0, _, _, _, _, h, _, _, _, _ => by omega
  | f + 1, at_, [], F, G, _, hF, hG, _, _ => by
    rw [List.nil_append, cut_fuel cls F G at_ b (by simpa using hF) hG]
    rfl
  | f + 1, at_, x :: r, 0, G, _, hF, _, _, _ => by simp at hF
  | f + 1, at_, x :: r, F + 1, G, hf, hF, hG, hn, hw => by
    rw [List.cons_append]
    cases ht : tokOf cls x r with
    | bad e => rw [cut_stop ht] at hn; cases hn
    | ok t rest =>
      rw [cut_step ht] at hn ⊢
      have hsuf := tokOf_suf cls x r t rest ht
      have hle := hsuf.length_le
      simp only [List.length_cons, List.cons_append, List.length_append] at hf hF
      have hw' : wholeEnd rest := ⟨fun h => hw.1 ((h.trans hsuf).trans (List.suffix_cons _ _)), fun h => hw.2 ((h.trans hsuf).trans (List.suffix_cons _ _))⟩
      have ha := tokOf_append b cls x r t rest ht (fun hx => ⟨fun hr => hw.1 (by rw [hx, hr]; exact List.suffix_refl _), fun hr => hw.2 (by rw [hx, hr]; exact List.suffix_refl _)⟩)
      rw [cut_step ha]
      have ih := cut_append b cls f (at_ + (r.length + 1 - rest.length)) rest F G (by omega) (by rw [List.length_append]; omega) hG hn hw'
      rw [show at_ + ((r ++ b).length + 1 - (rest ++ b).length) = at_ + (r.length + 1 - rest.length) from by rw [List.length_append, List.length_append]; omega, ih]
      rw [show at_ + (r.length + 1 - rest.length) + rest.length = at_ + (x :: r).length from by simp; omega]
      rfl
theorem cutAll_append (cls : List Nat → Option (BitVec 256)) (a b : List Nat) (ha : (cutAll cls a).1 = none) (hw : wholeEnd a) :
    cutAll cls (a ++ b) = (moveErr a.length (cutAll cls b).1, (cutAll cls a).2 ++ moveToks a.length (cutAll cls b).2) := by
  unfold cutAll at *
  rw [cut_append b cls (a.length + 1) 0 a ((a ++ b).length + 1) (b.length + 1) (by omega) (by omega) (by omega) ha hw]
  have := cut_shift cls a.length (b.length + 1) 0 b
  rw [this]
/-- each token takes a byte at least -/
theorem cut_length (cls : List Nat → Option (BitVec 256)) : ∀ (f at_ : Nat) (q : List Nat), (cutFrom cls f at_ q).2.length ≤ q.length
  | 0, _, _ => by simp [cutFrom]
  | f + 1, _, [] => by simp [cutFrom]
  | f + 1, at_, x :: r => by
    unfold cutFrom
    cases ht : tokOf cls x r with
    | bad e => simp
    | ok t rest =>
      have hs := (tokOf_suf cls x r t rest ht).length_le
      have := cut_length cls f (at_ + (r.length + 1 - rest.length)) rest
      simp
      omega
/-- a text of one token -/
theorem cut_one (cls : List Nat → Option (BitVec 256)) (x : Nat) (r : List Nat) (t : Tok) (h : tokOf cls x r = .ok t []) : cutAll cls (x :: r) = (none, [(t, 0)]) := by
  unfold cutAll cutFrom
  rw [h]
  simp [cutFrom]
theorem cut_bad (cls : List Nat → Option (BitVec 256)) (x : Nat) (r : List Nat) (e : Nat) (h : tokOf cls x r = .bad e) : cutAll cls (x :: r) = (some (0, e), []) := by
  unfold cutAll cutFrom
  rw [h]

/-! a byte behind a backslash; a byte alone -/
theorem esc_yes (cls : List Nat → Option (BitVec 256)) (c : Nat) (h : c ∈ specials) : cutAll cls [92, c] = (none, [(⟨1, oneByte c, 0, 0⟩, 0)]) := by
  refine cut_one cls 92 [c] _ ?_
  show escape [c] = _
  unfold escape
  simp only
  rw [if_pos h]
theorem esc_no (cls : List Nat → Option (BitVec 256)) (c : Nat) (h : ¬ c ∈ specials) : cutAll cls [92, c] = (some (0, if 49 ≤ c ∧ c ≤ 57 then 3 else 2), []) := by
  refine cut_bad cls 92 [c] _ ?_
  show escape [c] = _
  unfold escape
  simp only
  rw [if_neg h]
  split <;> rfl
theorem alone (cls : List Nat → Option (BitVec 256)) (c : Nat) (h : ¬ c ∈ specials) : cutAll cls [c] = (none, [(⟨1, oneByte c, 0, 0⟩, 0)]) := by
  have hn : ∀ x ∈ specials, c ≠ x := fun x hx e => h (by rw [e]; exact hx)
  refine cut_one cls c [] _ ?_
  unfold tokOf
  rw [if_neg (hn 42 (by decide)), if_neg (hn 43 (by decide)), if_neg (hn 63 (by decide)), if_neg (hn 123 (by decide)), if_neg (hn 40 (by decide)), if_neg (hn 41 (by decide)), if_neg (hn 124 (by decide)), if_neg (hn 94 (by decide)), if_neg (hn 36 (by decide)), if_neg (hn 46 (by decide)), if_neg (hn 92 (by decide)), if_neg (hn 91 (by decide))]
/-! numbers in braces -/
def numText (n : Nat) : List Nat := if n < 10 then [48 + n] else numText (n / 10) ++ [48 + n % 10]
termination_by n
theorem numText_dig (n : Nat) : numText n ≠ [] ∧ (∀ c ∈ numText n, isDig c = true) ∧ numOf (numText n) = n := by
  induction n using Nat.strongRecOn with
  | _ n ih =>
    rw [numText]
    by_cases h : n < 10
    · rw [if_pos h]
      refine ⟨by simp, ?_, ?_⟩
      · intro c hc
        simp at hc
        subst hc
        simp [isDig]; omega
      · simp [numOf]
    · rw [if_neg h]
      obtain ⟨h1, h2, h3⟩ := ih (n / 10) (by omega)
      refine ⟨by simp, ?_, ?_⟩
      · intro c hc
        rw [List.mem_append] at hc
        rcases hc with hc | hc
        · exact h2 c hc
        · simp at hc; subst hc; simp [isDig]; omega
      · unfold numOf at h3 ⊢
        rw [List.foldl_append, h3]
        simp; omega
theorem dig_run (l q : List Nat) (x : Nat) (hl : ∀ c ∈ l, isDig c = true) (hx : isDig x = false) : (l ++ x :: q).takeWhile isDig = l ∧ (l ++ x :: q).dropWhile isDig = x :: q := by
  induction l with
  | nil => simp [hx]
  | cons c l ih =>
    have hc := hl c (by simp)
    obtain ⟨h1, h2⟩ := ih (fun y hy => hl y (by simp [hy]))
    rw [List.cons_append, List.takeWhile_cons_of_pos hc, List.dropWhile_cons_of_pos hc, h1, h2]
    exact ⟨rfl, rfl⟩
theorem often_one (m : Nat) : often (numText m ++ [125]) = if 255 < m then .bad 4 else .ok ⟨6, 0, m, m⟩ [] := by
  obtain ⟨h1, h2, h3⟩ := numText_dig m
  obtain ⟨e1, e2⟩ := dig_run (numText m) [] 125 h2 (by decide)
  unfold often
  simp only
  rw [e1, e2, if_neg h1, h3]
  rfl
theorem often_from (m : Nat) : often (numText m ++ [44, 125]) = if 255 < m then .bad 4 else .ok ⟨6, 0, m, -1⟩ [] := by
  obtain ⟨h1, h2, h3⟩ := numText_dig m
  obtain ⟨e1, e2⟩ := dig_run (numText m) [125] 44 h2 (by decide)
  unfold often
  simp only
  rw [e1, e2, if_neg h1, h3]
  rfl
theorem often_two (m n : Nat) : often (numText m ++ 44 :: (numText n ++ [125])) = if 255 < m then .bad 4 else if 255 < n then .bad 4 else if n < m then .bad 2 else .ok ⟨6, 0, m, n⟩ [] := by
  obtain ⟨h1, h2, h3⟩ := numText_dig m
  obtain ⟨g1, g2, g3⟩ := numText_dig n
  obtain ⟨e1, e2⟩ := dig_run (numText m) (numText n ++ [125]) 44 h2 (by decide)
  obtain ⟨k1, k2⟩ := dig_run (numText n) [] 125 g2 (by decide)
  unfold often
  simp only
  rw [e1, e2, if_neg h1, h3]
  by_cases hm : 255 < m
  · rw [if_pos hm, if_pos hm]
  rw [if_neg hm, if_neg hm]
  cases hn : numText n with
  | nil => exact absurd hn g1
  | cons c l =>
    have hc : isDig c = true := g2 c (by rw [hn]; simp)
    have hc' : c ≠ 125 := by rintro rfl; revert hc; decide
    rw [hn] at k1 k2 g3
    rw [List.cons_append] at k1 k2 ⊢
    split
    · rename_i he; injection he with he1 _; omega
    · rename_i he; injection he with _ he2; injection he2 with he3 _; exact absurd he3 hc'
    · rename_i r3 _ he
      injection he with _ he2
      subst he2
      rw [k1, k2, if_neg (by simp), g3]
      rfl
    · rename_i _ _ h4; exact absurd rfl (h4 _)
/-! a check: the chapter's own example, and what tells the corners apart -/
def noClass : List Nat → Option (BitVec 256) := fun _ => none
theorem cut_samples : (cutAll noClass [97, 123, 50, 44, 125]).1 = none ∧ (cutAll noClass [97, 123, 50, 44, 125]).2.map (fun p => (p.1.kind, p.1.lo, p.1.hi, p.2)) = [(1, 0, 0, 0), (6, 2, -1, 1)] ∧
    (cutAll noClass [91, 93, 45, 97, 93]).1 = none ∧ (cutAll noClass [91, 97, 45, 99, 45, 101, 93]).1 = some (0, 2) ∧ (cutAll noClass [91, 97, 45, 91, 46, 120, 46, 93, 93]).1 = some (0, 3) ∧ (cutAll noClass [97, 123, 51, 44, 51, 48, 48]).1 = some (1, 4) ∧
    (cutAll noClass [91, 37, 45, 45, 93]).1 = none ∧ (cutAll noClass [91, 94, 0, 45, 255, 93]).1 = some (0, 2) := by decide +kernel
end Go.Proofs.Ytjfenbjamlflcaa
