/- Parsing, whole: its plain mathematics, the reader's steps, parse.Of at every text, what the laws lean on. -/
import Derived.Test.YtlgpbgcheeaalaaGreatDoorTokenWhole
import Derived.Test.YtlgpbgcheeaalaaGreatDoorTreeMath
import Derived.Test.YtlgpbgcheeaalaaGreatDoorNodeAppend
import Derived.WalkLawsBesides
import Derived.Deep.LoopGhost
import Derived.Test.YtlgpbgcheeaalaaGreatDoorFree
import Derived.Defers
import Derived.Recover
import Derived.OneCell
import Derived.Test.YtlgpbgcheeaalaaGreatDoorTreeGood
import Derived.Test.YtlgpbgcheeaalaaGreatDoorTreeFormed
import Derived.RangeFuncBox
namespace Go.Proofs.YtlgpbgcheeaalaaGreatDoor
set_option maxRecDepth 100000
open Go.RowKit
/-! The plain mathematics of parsing: what a reader does with the tokens at hand; texts one behind the other. -/

abbrev TK := Tok × Nat
/-- what a reader comes to: the place of a token that cannot stand there, or what was read, the tokens behind it, and how many groups have begun -/
inductive PR (α : Type) where
  | bad (at_ : Int)
  | ok (x : α) (l : List TK) (g : Nat)
def PR.bind {α β : Type} (r : PR α) (f : α → List TK → Nat → PR β) : PR β :=
  match r with
  | .bad k => .bad k
  | .ok x l g => f x l g
def PR.map {α β : Type} (f : α → β) (r : PR α) : PR β :=
  match r with
  | .bad k => .bad k
  | .ok x l g => .ok (f x) l g
def kindOf : List TK → Nat
  | [] => 0
  | p :: _ => p.1.kind
def placeOf (fin : Int) : List TK → Int
  | [] => fin
  | p :: _ => (p.2 : Int)
def setHead : List TK → BitVec 256
  | [] => 0
  | p :: _ => p.1.set
def loHead : List TK → Int
  | [] => 0
  | p :: _ => p.1.lo
def hiHead : List TK → Int
  | [] => 0
  | p :: _ => p.1.hi
section
variable (fin : Int)
def oneOf (k : Int) (l : List Nd) : Nd :=
  match l with
  | [x] => x
  | l => .mk k 0 0 0 0 l
def enclosedP (alt : List TK → Nat → PR Nd) (L : List TK) (g : Nat) : PR Nd :=
  (alt L g).bind fun x l g' => if kindOf l = 4 then .ok x l.tail g' else .bad (placeOf fin l)
def atomP (enc : List TK → Nat → PR Nd) (L : List TK) (g : Nat) : PR Nd :=
  if kindOf L = 2 then (enc L.tail (g + 1)).map fun x => .mk 5 0 0 0 ((g + 1 : Nat) : Int) [x]
  else if kindOf L = 3 then (enc L.tail g).map fun x => .mk 6 0 0 0 0 [x]
  else if kindOf L = 1 then .ok (.mk 1 (setHead L) 0 0 0 []) L.tail g
  else .bad (placeOf fin L)
def pieceP (enc : List TK → Nat → PR Nd) (L : List TK) (g : Nat) : PR Nd :=
  (atomP fin enc L g).bind fun x l g' => if kindOf l = 6 then .ok (.mk 4 0 (loHead l) (hiHead l) 0 [x]) l.tail g' else .ok x l g'
def startsPiece (k : Nat) : Bool := k == 1 || k == 2 || k == 3
def moreP (enc : List TK → Nat → PR Nd) : Nat → List TK → Nat → PR (List Nd)
  | 0, L, g => .ok [] L g
  | f + 1, L, g => if startsPiece (kindOf L) then (pieceP fin enc L g).bind fun x l g' => (moreP enc f l g').map (x :: ·) else .ok [] L g
def piecesP (enc : List TK → Nat → PR Nd) (L : List TK) (g : Nat) : PR (List Nd) :=
  (pieceP fin enc L g).bind fun x l g' => (moreP fin enc (l.length + 1) l g').map (x :: ·)
def concatP (enc : List TK → Nat → PR Nd) (L : List TK) (g : Nat) : PR Nd := (piecesP fin enc L g).map (oneOf 2)
def moreRows (enc : List TK → Nat → PR Nd) : Nat → List TK → Nat → PR (List Nd)
  | 0, L, g => .ok [] L g
  | f + 1, L, g => if kindOf L = 5 then (concatP fin enc L.tail g).bind fun x l g' => (moreRows enc f l g').map (x :: ·) else .ok [] L g
def rowsP (enc : List TK → Nat → PR Nd) (L : List TK) (g : Nat) : PR (List Nd) :=
  (concatP fin enc L g).bind fun x l g' => (moreRows fin enc (l.length + 1) l g').map (x :: ·)
def encF : Nat → List TK → Nat → PR Nd
  | 0, L, _ => .bad (placeOf fin L)
  | n + 1, L, g => enclosedP fin (fun L g => (rowsP fin (encF n) L g).map (oneOf 3)) L g
def altF (n : Nat) (L : List TK) (g : Nat) : PR Nd := (rowsP fin (encF fin n) L g).map (oneOf 3)
end
/-- where a pattern's tokens end, and whether a '$' stands there -/
def endsWith8 (L : List TK) : Bool := match L.getLast? with
  | some p => p.1.kind == 8
  | none => false
def finOf (n : Int) (L : List TK) : Int := match L.getLast? with
  | some p => if p.1.kind = 8 then (p.2 : Int) else n
  | none => n
def trimEnd (L : List TK) : List TK := if endsWith8 L then L.dropLast else L
def trimStart (L : List TK) : List TK := if kindOf L = 7 then L.tail else L
/-- the tokens of a text of n bytes, read -/
def readP (n : Int) (T : List TK) : PR Nd :=
  let L := trimStart T
  (altF (finOf n L) ((trimEnd L).length + 1) (trimEnd L) 0).bind fun x l g => if l = [] then .ok x l g else .bad (placeOf (finOf n L) l)
/-! how much is read -/
theorem map_ok {α β : Type} {f : α → β} {r : PR α} {y : β} {l : List TK} {g : Nat} (h : r.map f = .ok y l g) : ∃ x, r = .ok x l g ∧ y = f x := by
  cases r with
  | bad k => cases h
  | ok x l' g' => cases h; exact ⟨x, rfl, rfl⟩
theorem bind_ok {α β : Type} {r : PR α} {f : α → List TK → Nat → PR β} {y : β} {l : List TK} {g : Nat} (h : r.bind f = .ok y l g) : ∃ x l1 g1, r = .ok x l1 g1 ∧ f x l1 g1 = .ok y l g := by
  cases r with
  | bad k => cases h
  | ok x l' g' => exact ⟨x, l', g', rfl, h⟩
/-- the reader takes some tokens away, the last of which ends a piece -/
def endsOk : List TK → Bool
  | [] => true
  | [t] => t.1.kind == 1 || t.1.kind == 4
  | [s, t] => t.1.kind == 1 || t.1.kind == 4 || ((s.1.kind == 1 || s.1.kind == 4) && t.1.kind == 6)
  | _ :: r => endsOk r
def Takes {α : Type} (p : List TK → Nat → PR α) : Prop := ∀ L g x l g', p L g = .ok x l g' → (∃ C, C ≠ [] ∧ endsOk C = true ∧ L = C ++ l) ∧ g ≤ g'
theorem endsOk_cons (t : TK) : ∀ (C : List TK), C ≠ [] → endsOk C = true → endsOk (t :: C) = true
  | [], h, _ => absurd rfl h
  | [a], _, h => by
    unfold endsOk at h ⊢
    rw [Bool.or_eq_true] at h
    rcases h with h | h <;> simp [h]
  | [a, b], _, h => h
  | a :: b :: c :: r, _, h => h
theorem endsOk_append : ∀ (A C : List TK), C ≠ [] → endsOk C = true → endsOk (A ++ C) = true
  | [], _, _, h => h
  | a :: A, C, hn, h => endsOk_cons a (A ++ C) (by simp [hn]) (endsOk_append A C hn h)
theorem kind_cons {L : List TK} {k : Nat} (h : kindOf L = k) (hk : k ≠ 0) : ∃ t, L = t :: L.tail ∧ t.1.kind = k := by
  cases L with
  | nil => exact absurd h.symm hk
  | cons t L => exact ⟨t, rfl, h⟩
section
variable {fin : Int} {enc : List TK → Nat → PR Nd}
/-- what stands between brackets ends in one that closes -/
def TakesE (enc : List TK → Nat → PR Nd) : Prop := ∀ L g x l g', enc L g = .ok x l g' → (∃ C t, t.1.kind = 4 ∧ L = C ++ t :: l) ∧ g ≤ g'
theorem atom_takes (h : TakesE enc) {L : List TK} {g : Nat} {x : Nd} {l : List TK} {g' : Nat} (ha : atomP fin enc L g = .ok x l g') : (∃ C t, (t.1.kind = 1 ∨ t.1.kind = 4) ∧ L = C ++ t :: l) ∧ g ≤ g' := by
  unfold atomP at ha
  split at ha
  · rename_i hk
    obtain ⟨y, hy, _⟩ := map_ok ha
    obtain ⟨⟨C, t, ht, hC⟩, hg⟩ := h _ _ _ _ _ hy
    obtain ⟨u, hu, _⟩ := kind_cons hk (by decide)
    exact ⟨⟨u :: C, t, .inr ht, by rw [hu, hC]; rfl⟩, by omega⟩
  · split at ha
    · rename_i hk
      obtain ⟨y, hy, _⟩ := map_ok ha
      obtain ⟨⟨C, t, ht, hC⟩, hg⟩ := h _ _ _ _ _ hy
      obtain ⟨u, hu, _⟩ := kind_cons hk (by decide)
      exact ⟨⟨u :: C, t, .inr ht, by rw [hu, hC]; rfl⟩, by omega⟩
    · split at ha
      · rename_i hk
        obtain ⟨u, hu, hk1⟩ := kind_cons hk (by decide)
        cases ha
        exact ⟨⟨[], u, .inl hk1, hu⟩, Nat.le_refl _⟩
      · cases ha
theorem endsOk_last (C : List TK) (t : TK) (h : t.1.kind = 1 ∨ t.1.kind = 4) : endsOk (C ++ [t]) = true :=
  endsOk_append C [t] (by simp) (by unfold endsOk; rcases h with h | h <;> rw [h] <;> rfl)
theorem piece_takes (h : TakesE enc) : Takes (pieceP fin enc) := by
  intro L g x l g' hp
  unfold pieceP at hp
  obtain ⟨y, l1, g1, hy, hf⟩ := bind_ok hp
  obtain ⟨⟨C, t, ht, hC⟩, hg⟩ := atom_takes h hy
  split at hf
  · rename_i hk
    obtain ⟨u, hu, hk6⟩ := kind_cons hk (by decide)
    cases hf
    refine ⟨⟨C ++ [t, u], by simp, endsOk_append C [t, u] (by simp) (by unfold endsOk; rw [hk6]; rcases ht with ht | ht <;> rw [ht] <;> rfl), by rw [hC]; simp [← hu]⟩, hg⟩
  · cases hf
    exact ⟨⟨C ++ [t], by simp, endsOk_last C t ht, by rw [hC]; simp⟩, hg⟩
theorem more_takes (h : TakesE enc) : ∀ (f : Nat) (L : List TK) (g : Nat) (x : List Nd) (l : List TK) (g' : Nat), moreP fin enc f L g = .ok x l g' → (∃ C, (C = [] ∨ endsOk C = true) ∧ L = C ++ l) ∧ g ≤ g'
  | 0, L, g, x, l, g', hm => by cases hm; exact ⟨⟨[], .inl rfl, rfl⟩, Nat.le_refl _⟩
  | f + 1, L, g, x, l, g', hm => by
    unfold moreP at hm
    split at hm
    · obtain ⟨y, l1, g1, hy, hf⟩ := bind_ok hm
      obtain ⟨⟨C, hn, hC, hL⟩, hg⟩ := piece_takes h L g y l1 g1 hy
      obtain ⟨z, hz, _⟩ := map_ok hf
      obtain ⟨⟨D, hD, hl⟩, hg2⟩ := more_takes h f l1 g1 z l g' hz
      refine ⟨⟨C ++ D, .inr ?_, by rw [hL, hl]; simp⟩, by omega⟩
      by_cases hDn : D = []
      · subst hDn; simpa using hC
      · rcases hD with hD | hD
        · exact absurd hD hDn
        · exact endsOk_append C D hDn hD
    · cases hm; exact ⟨⟨[], .inl rfl, rfl⟩, Nat.le_refl _⟩
theorem pieces_takes (h : TakesE enc) : Takes (piecesP fin enc) := by
  intro L g x l g' hp
  unfold piecesP at hp
  obtain ⟨y, l1, g1, hy, hf⟩ := bind_ok hp
  obtain ⟨⟨C, hn, hC, hL⟩, hg⟩ := piece_takes h L g y l1 g1 hy
  obtain ⟨z, hz, _⟩ := map_ok hf
  obtain ⟨⟨D, hD, hl⟩, hg2⟩ := more_takes h _ l1 g1 z l g' hz
  refine ⟨⟨C ++ D, by simp [hn], ?_, by rw [hL, hl]; simp⟩, by omega⟩
  by_cases hDn : D = []
  · subst hDn; simpa using hC
  · rcases hD with hD | hD
    · exact absurd hD hDn
    · exact endsOk_append C D hDn hD
theorem concat_takes (h : TakesE enc) : Takes (concatP fin enc) := by
  intro L g x l g' hp
  obtain ⟨y, hy, _⟩ := map_ok hp
  exact pieces_takes h L g y l g' hy
theorem moreRows_takes (h : TakesE enc) : ∀ (f : Nat) (L : List TK) (g : Nat) (x : List Nd) (l : List TK) (g' : Nat), moreRows fin enc f L g = .ok x l g' → (∃ C, (C = [] ∨ endsOk C = true) ∧ L = C ++ l) ∧ g ≤ g'
  | 0, L, g, x, l, g', hm => by cases hm; exact ⟨⟨[], .inl rfl, rfl⟩, Nat.le_refl _⟩
  | f + 1, L, g, x, l, g', hm => by
    unfold moreRows at hm
    split at hm
    · rename_i hk
      obtain ⟨u, hu, _⟩ := kind_cons hk (by decide)
      obtain ⟨y, l1, g1, hy, hf⟩ := bind_ok hm
      obtain ⟨⟨C, hn, hC, hL⟩, hg⟩ := concat_takes h L.tail g y l1 g1 hy
      obtain ⟨z, hz, _⟩ := map_ok hf
      obtain ⟨⟨D, hD, hl⟩, hg2⟩ := moreRows_takes h f l1 g1 z l g' hz
      refine ⟨⟨u :: C ++ D, .inr ?_, by rw [hu, hL, hl]; simp⟩, by omega⟩
      by_cases hDn : D = []
      · subst hDn; simpa using endsOk_cons u C hn hC
      · rcases hD with hD | hD
        · exact absurd hD hDn
        · exact endsOk_append (u :: C) D hDn hD
    · cases hm; exact ⟨⟨[], .inl rfl, rfl⟩, Nat.le_refl _⟩
theorem rows_takes (h : TakesE enc) : Takes (rowsP fin enc) := by
  intro L g x l g' hp
  unfold rowsP at hp
  obtain ⟨y, l1, g1, hy, hf⟩ := bind_ok hp
  obtain ⟨⟨C, hn, hC, hL⟩, hg⟩ := concat_takes h L g y l1 g1 hy
  obtain ⟨z, hz, _⟩ := map_ok hf
  obtain ⟨⟨D, hD, hl⟩, hg2⟩ := moreRows_takes h _ l1 g1 z l g' hz
  refine ⟨⟨C ++ D, by simp [hn], ?_, by rw [hL, hl]; simp⟩, by omega⟩
  by_cases hDn : D = []
  · subst hDn; simpa using hC
  · rcases hD with hD | hD
    · exact absurd hD hDn
    · exact endsOk_append C D hDn hD
end
theorem enc_takes (fin : Int) : ∀ n, TakesE (encF fin n)
  | 0 => fun L g x l g' h => by cases h
  | n + 1 => fun L g x l g' h => by
    unfold encF enclosedP at h
    obtain ⟨y, l1, g1, hy, hf⟩ := bind_ok h
    obtain ⟨z, hz, _⟩ := map_ok hy
    obtain ⟨⟨C, _, _, hL⟩, hg⟩ := rows_takes (enc_takes fin n) L g z l1 g1 hz
    split at hf
    · rename_i hk
      obtain ⟨u, hu, hk4⟩ := kind_cons hk (by decide)
      cases hf
      exact ⟨⟨C, u, hk4, by rw [hL, ← hu]⟩, hg⟩
    · cases hf
theorem alt_takes (fin : Int) (n : Nat) : Takes (altF fin n) := by
  intro L g x l g' hp
  obtain ⟨y, hy, _⟩ := map_ok hp
  exact rows_takes (enc_takes fin n) L g y l g' hy
theorem takes_length {α : Type} {p : List TK → Nat → PR α} (h : Takes p) {L : List TK} {g : Nat} {x : α} {l : List TK} {g' : Nat} (hp : p L g = .ok x l g') : l.length < L.length := by
  obtain ⟨⟨C, hn, _, hL⟩, _⟩ := h _ _ _ _ _ hp
  rw [hL, List.length_append]
  have : 0 < C.length := List.length_pos_iff.mpr hn
  omega
/-! What is read within a longer text is read the same. -/

section
variable (d e : Nat) (R : List TK)
theorem mv_cons (t : TK) (L : List TK) : moveToks d (t :: L) ++ R = (t.1, t.2 + d) :: (moveToks d L ++ R) := rfl
theorem kind_mv {L : List TK} (h : L ≠ []) : kindOf (moveToks d L ++ R) = kindOf L := by
  cases L with
  | nil => exact absurd rfl h
  | cons t L => rfl
theorem tail_mv {L : List TK} (h : L ≠ []) : (moveToks d L ++ R).tail = moveToks d L.tail ++ R := by
  cases L with
  | nil => exact absurd rfl h
  | cons t L => rfl
theorem head_mv {L : List TK} (h : L ≠ []) : setHead (moveToks d L ++ R) = setHead L ∧ loHead (moveToks d L ++ R) = loHead L ∧ hiHead (moveToks d L ++ R) = hiHead L := by
  cases L with
  | nil => exact absurd rfl h
  | cons t L => exact ⟨rfl, rfl, rfl⟩
theorem ne_of_kind {L : List TK} {k : Nat} (h : kindOf L = k) (hk : k ≠ 0) : L ≠ [] := by
  rintro rfl; exact hk h.symm
/-- what goes on with no piece -/
def Stops : Prop := kindOf R ≠ 6 ∧ startsPiece (kindOf R) = false
/-- what goes on with no alternative -/
def StopsAll : Prop := Stops R ∧ kindOf R ≠ 5
def AgreeE (enc enc' : List TK → Nat → PR Nd) : Prop := ∀ L g x l g', enc L g = .ok x l g' → (e = 0 ∨ g' = g) → enc' (moveToks d L ++ R) (g + e) = .ok x (moveToks d l ++ R) (g' + e)
def AgreeS {α : Type} (S : Prop) (p q : List TK → Nat → PR α) : Prop :=
  ∀ L g x l g', p L g = .ok x l g' → (l ≠ [] ∨ S) → (e = 0 ∨ g' = g) → q (moveToks d L ++ R) (g + e) = .ok x (moveToks d l ++ R) (g' + e)
end
section
variable {d e : Nat} {R : List TK} {fin fin' : Int} {enc enc' : List TK → Nat → PR Nd}
theorem atom_agree (ht : TakesE enc) (h : AgreeE d e R enc enc') : AgreeE d e R (atomP fin enc) (atomP fin' enc') := by
  intro L g x l g' ha he
  unfold atomP at ha ⊢
  split at ha
  · rename_i hk
    have hn := ne_of_kind hk (by decide)
    obtain ⟨y, hy, rfl⟩ := map_ok ha
    have hg := (ht _ _ _ _ _ hy).2
    obtain rfl : e = 0 := by rcases he with he | he <;> omega
    rw [kind_mv d R hn, if_pos hk, tail_mv d R hn, h _ _ _ _ _ hy (.inl rfl)]
    rfl
  · rename_i hk2
    split at ha
    · rename_i hk
      have hn := ne_of_kind hk (by decide)
      obtain ⟨y, hy, rfl⟩ := map_ok ha
      rw [kind_mv d R hn, if_neg hk2, if_pos hk, tail_mv d R hn, h _ _ _ _ _ hy he]
      rfl
    · rename_i hk3
      split at ha
      · rename_i hk
        have hn := ne_of_kind hk (by decide)
        cases ha
        rw [kind_mv d R hn, if_neg hk2, if_neg hk3, if_pos hk, tail_mv d R hn, (head_mv d R hn).1]
      · cases ha
theorem piece_agree (ht : TakesE enc) (h : AgreeE d e R enc enc') : AgreeS d e R (kindOf R ≠ 6) (pieceP fin enc) (pieceP fin' enc') := by
  intro L g x l g' hp hs he
  unfold pieceP at hp ⊢
  obtain ⟨y, l1, g1, hy, hf⟩ := bind_ok hp
  have hgg : g1 = g' := by split at hf <;> cases hf <;> rfl
  subst hgg
  rw [atom_agree (fin := fin) (fin' := fin') ht h _ _ _ _ _ hy he]
  unfold PR.bind
  simp only
  split at hf
  · rename_i hk
    have hn := ne_of_kind hk (by decide)
    cases hf
    rw [kind_mv d R hn, if_pos hk, tail_mv d R hn, (head_mv d R hn).2.1, (head_mv d R hn).2.2]
  · rename_i hk
    cases hf
    rw [if_neg ?_]
    by_cases hn : l = []
    · subst hn
      rcases hs with hs | hs
      · exact absurd rfl hs
      · exact hs
    · rw [kind_mv d R hn]; exact hk
theorem more_agree (ht : TakesE enc) (h : AgreeE d e R enc enc') : ∀ (f F : Nat) (L : List TK) (g : Nat) (x : List Nd) (l : List TK) (g' : Nat), L.length < f → (moveToks d L ++ R).length < F → moreP fin enc f L g = .ok x l g' → (l ≠ [] ∨ Stops R) → (e = 0 ∨ g' = g) →
    moreP fin' enc' F (moveToks d L ++ R) (g + e) = .ok x (moveToks d l ++ R) (g' + e)
  | 0, _, L, _, _, _, _, hf, _, _, _, _ => by omega
  | _, 0, _, _, _, _, _, _, hF, _, _, _ => by omega
  | f + 1, F + 1, L, g, x, l, g', hf, hF, hm, hs, he => by
    unfold moreP at hm ⊢
    split at hm
    · rename_i hk
      have hn : L ≠ [] := by rintro rfl; cases hk
      obtain ⟨y, l1, g1, hy, hzz⟩ := bind_ok hm
      obtain ⟨z, hz, rfl⟩ := map_ok hzz
      obtain ⟨⟨D, _, hl⟩, hg2⟩ := more_takes ht f l1 g1 z l g' hz
      have hg1 := (piece_takes ht L g y l1 g1 hy).2
      have hlen := takes_length (piece_takes ht) hy
      have hs1 : l1 ≠ [] ∨ kindOf R ≠ 6 := by
        rcases hs with hs | hs
        · exact .inl (by rintro rfl; exact hs (List.append_eq_nil_iff.1 hl.symm).2)
        · exact .inr hs.1
      have he1 : e = 0 ∨ g1 = g := by omega
      have he2 : e = 0 ∨ g' = g1 := by omega
      rw [kind_mv d R hn, if_pos hk, piece_agree (fin := fin) (fin' := fin') ht h _ _ _ _ _ hy hs1 he1]
      unfold PR.bind
      simp only
      rw [more_agree ht h f F l1 g1 z l g' (by omega) (by simp [moveToks] at hF ⊢; omega) hz hs he2]
      rfl
    · rename_i hk
      cases hm
      rw [if_neg ?_]
      by_cases hn : L = []
      · subst hn
        rcases hs with hs | hs
        · exact absurd rfl hs
        · rw [show moveToks d [] ++ R = R from rfl, hs.2]; decide
      · rw [kind_mv d R hn]; exact hk
theorem pieces_agree (ht : TakesE enc) (h : AgreeE d e R enc enc') : AgreeS d e R (Stops R) (piecesP fin enc) (piecesP fin' enc') := by
  intro L g x l g' hp hs he
  unfold piecesP at hp ⊢
  obtain ⟨y, l1, g1, hy, hzz⟩ := bind_ok hp
  obtain ⟨z, hz, rfl⟩ := map_ok hzz
  obtain ⟨⟨D, _, hl⟩, hg2⟩ := more_takes ht _ l1 g1 z l g' hz
  have hg1 := (piece_takes ht L g y l1 g1 hy).2
  have hs1 : l1 ≠ [] ∨ kindOf R ≠ 6 := by
    rcases hs with hs | hs
    · exact .inl (by rintro rfl; exact hs (List.append_eq_nil_iff.1 hl.symm).2)
    · exact .inr hs.1
  have he1 : e = 0 ∨ g1 = g := by omega
  have he2 : e = 0 ∨ g' = g1 := by omega
  rw [piece_agree (fin := fin) (fin' := fin') ht h _ _ _ _ _ hy hs1 he1]
  unfold PR.bind
  simp only
  rw [more_agree ht h _ _ l1 g1 z l g' (Nat.lt_succ_self _) (Nat.lt_succ_self _) hz hs he2]
  rfl
theorem concat_agree (ht : TakesE enc) (h : AgreeE d e R enc enc') : AgreeS d e R (Stops R) (concatP fin enc) (concatP fin' enc') := by
  intro L g x l g' hp hs he
  unfold concatP at hp ⊢
  obtain ⟨y, hy, rfl⟩ := map_ok hp
  rw [pieces_agree (fin := fin) (fin' := fin') ht h _ _ _ _ _ hy hs he]
  rfl
/-- the alternatives that follow, up to a text that goes on with another row of them -/
theorem moreRows_agree (ht : TakesE enc) (h : AgreeE d e R enc enc') (hS : Stops R) (Z : List Nd) (k : List TK) (gk : Nat) :
    ∀ (f F : Nat) (L : List TK) (g : Nat) (x : List Nd) (l : List TK) (g' : Nat), L.length < f → (moveToks d L ++ R).length < F → moreRows fin enc f L g = .ok x l g' → (l ≠ [] → Z = [] ∧ k = moveToks d l ++ R ∧ gk = g' + e) → (l = [] → ∀ F, R.length < F → moreRows fin' enc' F R (g' + e) = .ok Z k gk) → (e = 0 ∨ g' = g) →
    moreRows fin' enc' F (moveToks d L ++ R) (g + e) = .ok (x ++ Z) k gk
  | 0, _, L, _, _, _, _, hf, _, _, _, _, _ => by omega
  | _, 0, _, _, _, _, _, _, hF, _, _, _, _ => by omega
  | f + 1, F + 1, L, g, x, l, g', hf, hF, hm, hne, hnil, he => by
    by_cases hL : L = []
    · subst hL
      unfold moreRows at hm
      rw [if_neg (by decide)] at hm
      cases hm
      exact hnil rfl (F + 1) (by simpa [moveToks] using hF)
    · unfold moreRows at hm ⊢
      split at hm
      · rename_i hk
        obtain ⟨y, l1, g1, hy, hzz⟩ := bind_ok hm
        obtain ⟨z, hz, rfl⟩ := map_ok hzz
        obtain ⟨⟨D, _, hl⟩, hg2⟩ := moreRows_takes ht f l1 g1 z l g' hz
        have hg1 := (concat_takes ht L.tail g y l1 g1 hy).2
        have hlen := takes_length (concat_takes ht) hy
        have hLl : L.tail.length < L.length := by cases L with
          | nil => exact absurd rfl hL
          | cons t L => simp
        have he1 : e = 0 ∨ g1 = g := by omega
        have he2 : e = 0 ∨ g' = g1 := by omega
        rw [kind_mv d R hL, if_pos hk, tail_mv d R hL, concat_agree (fin := fin) (fin' := fin') ht h _ _ _ _ _ hy (.inr hS) he1]
        unfold PR.bind
        simp only
        rw [moreRows_agree ht h hS Z k gk f F l1 g1 z l g' (by omega) (by simp [moveToks] at hF ⊢; omega) hz hne hnil he2]
        rfl
      · rename_i hk
        cases hm
        obtain ⟨rfl, rfl, rfl⟩ := hne hL
        rw [kind_mv d R hL, if_neg hk]
        rfl
theorem rows_agree (ht : TakesE enc) (h : AgreeE d e R enc enc') (hS : Stops R) {Z : List Nd} {k : List TK} {gk : Nat} {L : List TK} {g : Nat} {x : List Nd} {l : List TK} {g' : Nat} (hp : rowsP fin enc L g = .ok x l g')
    (hne : l ≠ [] → Z = [] ∧ k = moveToks d l ++ R ∧ gk = g' + e) (hnil : l = [] → ∀ F, R.length < F → moreRows fin' enc' F R (g' + e) = .ok Z k gk) (he : e = 0 ∨ g' = g) : rowsP fin' enc' (moveToks d L ++ R) (g + e) = .ok (x ++ Z) k gk := by
  unfold rowsP at hp ⊢
  obtain ⟨y, l1, g1, hy, hzz⟩ := bind_ok hp
  obtain ⟨z, hz, rfl⟩ := map_ok hzz
  have hg2 := (moreRows_takes ht _ l1 g1 z l g' hz).2
  have hg1 := (concat_takes ht L g y l1 g1 hy).2
  have he1 : e = 0 ∨ g1 = g := by omega
  have he2 : e = 0 ∨ g' = g1 := by omega
  rw [concat_agree (fin := fin) (fin' := fin') ht h _ _ _ _ _ hy (.inr hS) he1]
  unfold PR.bind
  simp only
  rw [moreRows_agree ht h hS Z k gk _ _ l1 g1 z l g' (Nat.lt_succ_self _) (Nat.lt_succ_self _) hz hne hnil he2]
  rfl
end
/-- brackets: whatever stands behind them, with more fuel -/
theorem enc_agree (d e : Nat) (R : List TK) (hS : Stops R) (fin fin' : Int) : ∀ n m, n ≤ m → AgreeE d e R (encF fin n) (encF fin' m)
  | 0, _, _ => fun L g x l g' h => by cases h
  | n + 1, 0, h => by omega
  | n + 1, m + 1, hnm => fun L g x l g' h he => by
    unfold encF enclosedP at h ⊢
    obtain ⟨y, l1, g1, hy, hf⟩ := bind_ok h
    obtain ⟨z, hz, rfl⟩ := map_ok hy
    split at hf
    · rename_i hk
      have hn := ne_of_kind hk (by decide)
      cases hf
      show PR.bind (PR.map (oneOf 3) (rowsP fin' (encF fin' m) (moveToks d L ++ R) (g + e))) _ = _
      rw [rows_agree (enc_takes fin n) (enc_agree d e R hS fin fin' n m (by omega)) hS (Z := []) (k := moveToks d l1 ++ R) (gk := g' + e) hz (fun _ => ⟨rfl, rfl, rfl⟩) (fun h => absurd h hn) he, List.append_nil]
      unfold PR.map PR.bind
      simp only
      rw [kind_mv d R hn, if_pos hk, tail_mv d R hn]
    · cases hf
/-! Whole texts parsed: between '^' and '$', in brackets, side by side. -/

/-- what a text comes to: an error and its place, or a pattern -/
inductive PO where
  | err (at_ : Int) (e : Int)
  | ok (st en : Bool) (root : Nd) (gr : Nat)
def ofTokens (n : Int) (T : List TK) : PO :=
  match readP n T with
  | .bad k => .err k 2
  | .ok x _ g => if goodP x g then .ok (kindOf T == 7) (endsWith8 (trimStart T)) x g else .err 0 4
def ofP (cls : List Nat → Option (BitVec 256)) (q : List Nat) : PO :=
  if 1024 < q.length then .err 1024 4
  else match cutAll cls q with
    | (some p, _) => .err p.1 p.2
    | (none, T) => ofTokens q.length T
/-! tokens that end so that a text that goes on is cut the same -/
def okCut : List TK → Bool
  | [] => true
  | [t] => t.1.kind != 2
  | [s, t] => t.1.kind != 2 && !(s.1.kind == 2 && t.1.kind == 6)
  | _ :: r => okCut r
theorem okCut_tail (t : TK) : ∀ (r : List TK), okCut (t :: r) = true → okCut r = true
  | [], _ => rfl
  | [a], h => by
    unfold okCut at h ⊢
    rw [Bool.and_eq_true] at h
    exact h.1
  | a :: b :: r, h => h
theorem okCut_of_ends : ∀ (C : List TK), endsOk C = true → okCut C = true
  | [], _ => rfl
  | [t], h => by
    unfold endsOk at h
    unfold okCut
    rw [Bool.or_eq_true, beq_iff_eq, beq_iff_eq] at h
    rcases h with h | h <;> rw [h] <;> rfl
  | [s, t], h => by
    unfold endsOk at h
    unfold okCut
    rw [Bool.or_eq_true, Bool.or_eq_true, Bool.and_eq_true, Bool.or_eq_true, beq_iff_eq, beq_iff_eq, beq_iff_eq, beq_iff_eq, beq_iff_eq] at h
    rcases h with (h | h) | ⟨h | h, h2⟩
    · rw [h]; simp
    · rw [h]; simp
    · rw [h, h2]; rfl
    · rw [h, h2]; rfl
  | _ :: b :: c :: r, h => okCut_of_ends (b :: c :: r) h
theorem cut_nil (cls : List Nat → Option (BitVec 256)) (f at_ : Nat) : cutFrom cls f at_ [] = (none, []) := by cases f <;> rfl
theorem cut_append2 (b : List Nat) (cls : List Nat → Option (BitVec 256)) : ∀ (f at_ : Nat) (q : List Nat) (F G : Nat), q.length < f → (q ++ b).length < F → b.length < G → (cutFrom cls f at_ q).1 = none → okCut (cutFrom cls f at_ q).2 = true →
    cutFrom cls F at_ (q ++ b) = ((cutFrom cls G (at_ + q.length) b).1, (cutFrom cls f at_ q).2 ++ (cutFrom cls G (at_ + q.length) b).2)
  | 0, _, _, _, _, h, _, _, _, _ => by omega
  | f + 1, at_, [], F, G, _, hF, hG, _, _ => by
    rw [List.nil_append, cut_fuel cls F G at_ b (by simpa using hF) hG]
    rfl
  | f + 1, at_, x :: r, 0, G, _, hF, _, _, _ => by simp at hF
  | f + 1, at_, x :: r, F + 1, G, hf, hF, hG, hn, hw => by
    rw [List.cons_append]
    cases ht : tokOf cls x r with
    | bad e => rw [cut_stop ht] at hn; cases hn
    | ok t rest =>
      have ha := tokOf_append b cls x r t rest ht (fun hx => by
        subst hx
        refine ⟨?_, ?_⟩
        · rintro rfl
          have e : tokOf cls 40 [] = .ok ⟨2, 0, 0, 0⟩ [] := rfl
          rw [cut_step e, cut_nil] at hw
          cases hw
        · rintro rfl
          have e : tokOf cls 40 [63] = .ok ⟨2, 0, 0, 0⟩ [63] := rfl
          have e2 : tokOf cls 63 [] = .ok ⟨6, 0, 0, 1⟩ [] := rfl
          cases f with
          | zero => simp at hf
          | succ f =>
            rw [cut_step e, cut_step e2, cut_nil] at hw
            cases hw)
      rw [cut_step ht] at hn hw ⊢
      have hle := (tokOf_suf cls x r t rest ht).length_le
      simp only [List.length_cons, List.cons_append, List.length_append] at hf hF
      rw [cut_step ha]
      have ih := cut_append2 b cls f (at_ + (r.length + 1 - rest.length)) rest F G (by omega) (by rw [List.length_append]; omega) hG hn (okCut_tail _ _ hw)
      rw [show at_ + ((r ++ b).length + 1 - (rest ++ b).length) = at_ + (r.length + 1 - rest.length) from by rw [List.length_append, List.length_append]; omega, ih]
      rw [show at_ + (r.length + 1 - rest.length) + rest.length = at_ + (x :: r).length from by simp; omega]
      rfl
theorem cutAll_append2 (cls : List Nat → Option (BitVec 256)) (a b : List Nat) (ha : (cutAll cls a).1 = none) (hw : okCut (cutAll cls a).2 = true) :
    cutAll cls (a ++ b) = (moveErr a.length (cutAll cls b).1, (cutAll cls a).2 ++ moveToks a.length (cutAll cls b).2) := by
  unfold cutAll at *
  rw [cut_append2 b cls (a.length + 1) 0 a ((a ++ b).length + 1) (b.length + 1) (by omega) (by omega) (by omega) ha hw]
  have := cut_shift cls a.length (b.length + 1) 0 b
  rw [this]
/-! a pattern with no flags -/
theorem read_plain {n : Int} {T : List TK} (h7 : kindOf T ≠ 7) (h8 : endsWith8 T = false) : readP n T = (altF n (T.length + 1) T 0).bind fun x l g => if l = [] then .ok x l g else .bad (placeOf n l) := by
  have e1 : trimStart T = T := by unfold trimStart; rw [if_neg h7]
  have e2 : trimEnd T = T := by unfold trimEnd; rw [h8]; rfl
  have e3 : finOf n T = n := by
    unfold endsWith8 at h8
    unfold finOf
    cases hl : T.getLast? with
    | none => rfl
    | some p =>
      rw [hl] at h8
      simp only at h8 ⊢
      rw [if_neg (by simpa using h8)]
  unfold readP
  simp only
  rw [e1, e2, e3]
theorem of_plain {cls : List Nat → Option (BitVec 256)} {q : List Nat} {x : Nd} {g : Nat} (h : ofP cls q = .ok false false x g) :
    ∃ T xs, cutAll cls q = (none, T) ∧ q.length ≤ 1024 ∧ T ≠ [] ∧ endsOk T = true ∧ kindOf T ≠ 7 ∧ endsWith8 T = false ∧ rowsP q.length (encF q.length (T.length + 1)) T 0 = .ok xs [] g ∧ x = oneOf 3 xs ∧ goodP x g = true := by
  unfold ofP at h
  split at h
  · cases h
  rename_i hlen
  split at h
  · cases h
  rename_i T hT
  unfold ofTokens at h
  split at h
  · cases h
  rename_i y l g1 hr
  split at h
  · rename_i hg
    injection h with e1 e2 e3 e4
    subst e3 e4
    have h7 : kindOf T ≠ 7 := by simpa using e1
    have h8 : endsWith8 T = false := by
      unfold trimStart at e2
      rwa [if_neg h7] at e2
    rw [read_plain h7 h8] at hr
    obtain ⟨z, l1, g2, hz, hf⟩ := bind_ok hr
    split at hf
    · rename_i hl
      cases hf
      subst hl
      obtain ⟨xs, hxs, rfl⟩ := map_ok hz
      obtain ⟨⟨C, hn, hC, hL⟩, _⟩ := rows_takes (enc_takes _ _) T 0 xs [] _ hxs
      rw [List.append_nil] at hL
      subst hL
      exact ⟨T, xs, hT, by omega, hn, hC, h7, h8, hxs, rfl, hg⟩
    · cases hf
  · cases h
theorem last_mv (d : Nat) (T : List TK) : (moveToks d T).getLast? = T.getLast?.map fun p => (p.1, p.2 + d) := by
  unfold moveToks; rw [List.getLast?_map]
theorem ends_mv (d : Nat) (T : List TK) : endsWith8 (moveToks d T) = endsWith8 T := by
  unfold endsWith8; rw [last_mv]; cases T.getLast? <;> rfl
theorem ends_append (A T : List TK) (h : T ≠ []) : endsWith8 (A ++ T) = endsWith8 T := by
  unfold endsWith8
  cases hl : T.getLast? with
  | none => exact absurd (List.getLast?_eq_none_iff.1 hl) h
  | some p => rw [List.getLast?_append, hl]; rfl
theorem mv_ne (d : Nat) {T : List TK} (h : T ≠ []) : moveToks d T ≠ [] := by
  cases T with
  | nil => exact absurd rfl h
  | cons t T => simp [moveToks]
theorem mv_length (d : Nat) (T : List TK) : (moveToks d T).length = T.length := by simp [moveToks]
theorem mv_zero (T : List TK) : moveToks 0 T = T := by simp [moveToks]
theorem stops_nil : Stops [] := ⟨by decide, by decide⟩
theorem rows_nil (fin' : Int) (enc' : List TK → Nat → PR Nd) (g : Nat) : ∀ F, ([] : List TK).length < F → moreRows fin' enc' F [] g = .ok [] [] g
  | 0, h => by cases h
  | F + 1, _ => by unfold moreRows; rw [if_neg (by decide)]
/-- with '^' ahead and '$' behind -/
theorem of_flags {cls : List Nat → Option (BitVec 256)} {q : List Nat} {x : Nd} {g : Nat} (h : ofP cls q = .ok false false x g) (hl : q.length ≤ 1022) : ofP cls (94 :: (q ++ [36])) = .ok true true x g := by
  obtain ⟨T, xs, hT, _, hn, hC, h7, h8, hxs, rfl, hg⟩ := of_plain h
  have c1 : cutAll cls (q ++ [36]) = (none, T ++ [(⟨8, 0, 0, 0⟩, q.length)]) := by
    rw [cutAll_append2 cls q [36] (by rw [hT]) (by rw [hT]; exact okCut_of_ends T hC), cut_one cls 36 [] ⟨8, 0, 0, 0⟩ rfl, hT]
    simp [moveErr, moveToks]
  have c2 : cutAll cls (94 :: (q ++ [36])) = (none, (⟨7, 0, 0, 0⟩, 0) :: (moveToks 1 T ++ [(⟨8, 0, 0, 0⟩, q.length + 1)])) := by
    have := cutAll_append2 cls [94] (q ++ [36]) (by rw [cut_one cls 94 [] ⟨7, 0, 0, 0⟩ rfl]) (by rw [cut_one cls 94 [] ⟨7, 0, 0, 0⟩ rfl]; rfl)
    rw [cut_one cls 94 [] ⟨7, 0, 0, 0⟩ rfl, c1] at this
    rw [show 94 :: (q ++ [36]) = [94] ++ (q ++ [36]) from rfl, this]
    simp [moveErr, moveToks]
  unfold ofP
  rw [if_neg (by simp; omega), c2]
  simp only
  unfold ofTokens readP
  simp only
  have e1 : trimStart ((⟨7, 0, 0, 0⟩, 0) :: (moveToks 1 T ++ [(⟨8, 0, 0, 0⟩, q.length + 1)])) = moveToks 1 T ++ [(⟨8, 0, 0, 0⟩, q.length + 1)] := rfl
  have e2 : endsWith8 (moveToks 1 T ++ [((⟨8, 0, 0, 0⟩ : Tok), q.length + 1)]) = true := by rw [ends_append _ _ (by simp)]; rfl
  have e3 : trimEnd (moveToks 1 T ++ [((⟨8, 0, 0, 0⟩ : Tok), q.length + 1)]) = moveToks 1 T := by unfold trimEnd; rw [if_pos e2]; simp
  rw [e1, e2, e3]
  generalize finOf _ _ = fin'
  have hr := rows_agree (d := 1) (e := 0) (R := []) (fin' := fin') (enc_takes _ _) (enc_agree 1 0 [] stops_nil q.length fin' (T.length + 1) ((moveToks 1 T).length + 1) (by rw [mv_length]; exact Nat.le_refl _)) stops_nil (Z := []) (k := []) (gk := g) hxs (fun h => absurd rfl h) (fun _ => rows_nil _ _ _) (.inl rfl)
  rw [List.append_nil, List.append_nil] at hr
  unfold altF
  rw [show (0 : Nat) + 0 = 0 from rfl] at hr
  rw [hr]
  simp only [PR.map, PR.bind, if_true]
  rw [if_pos hg]
  rfl
/-- in brackets -/
theorem of_bracket {cls : List Nat → Option (BitVec 256)} {q : List Nat} {x : Nd} {g : Nat} (h : ofP cls q = .ok false false x g) (hl : q.length ≤ 1020) :
    ofP cls (40 :: 63 :: 58 :: (q ++ [41])) = if goodP (.mk 6 0 0 0 0 [x]) g then .ok false false (.mk 6 0 0 0 0 [x]) g else .err 0 4 := by
  obtain ⟨T, xs, hT, _, hn, hC, h7, h8, hxs, rfl, hg⟩ := of_plain h
  have c1 : cutAll cls (q ++ [41]) = (none, T ++ [(⟨4, 0, 0, 0⟩, q.length)]) := by
    rw [cutAll_append2 cls q [41] (by rw [hT]) (by rw [hT]; exact okCut_of_ends T hC), cut_one cls 41 [] ⟨4, 0, 0, 0⟩ rfl, hT]
    simp [moveErr, moveToks]
  have c2 : cutAll cls (40 :: 63 :: 58 :: (q ++ [41])) = (none, (⟨3, 0, 0, 0⟩, 0) :: (moveToks 3 T ++ [(⟨4, 0, 0, 0⟩, q.length + 3)])) := by
    have := cutAll_append2 cls [40, 63, 58] (q ++ [41]) (by rw [cut_one cls 40 [63, 58] ⟨3, 0, 0, 0⟩ rfl]) (by rw [cut_one cls 40 [63, 58] ⟨3, 0, 0, 0⟩ rfl]; rfl)
    rw [cut_one cls 40 [63, 58] ⟨3, 0, 0, 0⟩ rfl, c1] at this
    rw [show 40 :: 63 :: 58 :: (q ++ [41]) = [40, 63, 58] ++ (q ++ [41]) from rfl, this]
    simp [moveErr, moveToks]
  unfold ofP
  rw [if_neg (by simp; omega), c2]
  simp only
  unfold ofTokens
  have e2 : endsWith8 (((⟨3, 0, 0, 0⟩ : Tok), 0) :: (moveToks 3 T ++ [((⟨4, 0, 0, 0⟩ : Tok), q.length + 3)])) = false := by
    rw [show (((⟨3, 0, 0, 0⟩ : Tok), 0) :: (moveToks 3 T ++ [((⟨4, 0, 0, 0⟩ : Tok), q.length + 3)])) = (((⟨3, 0, 0, 0⟩ : Tok), 0) :: moveToks 3 T) ++ [((⟨4, 0, 0, 0⟩ : Tok), q.length + 3)] from rfl, ends_append _ _ (by simp)]; rfl
  have e1 : trimStart (((⟨3, 0, 0, 0⟩ : Tok), 0) :: (moveToks 3 T ++ [((⟨4, 0, 0, 0⟩ : Tok), q.length + 3)])) = ((⟨3, 0, 0, 0⟩ : Tok), 0) :: (moveToks 3 T ++ [((⟨4, 0, 0, 0⟩ : Tok), q.length + 3)]) := rfl
  rw [read_plain (by show (3 : Nat) ≠ 7; decide) e2, e1, e2]
  generalize hfin : (((40 :: 63 :: 58 :: (q ++ [41])).length : Nat) : Int) = fin'
  have hS : Stops [((⟨4, 0, 0, 0⟩ : Tok), q.length + 3)] := ⟨by show (4 : Nat) ≠ 6; decide, rfl⟩
  have hr := rows_agree (d := 3) (e := 0) (R := [((⟨4, 0, 0, 0⟩ : Tok), q.length + 3)]) (fin' := fin') (enc_takes _ _) (enc_agree 3 0 _ hS q.length fin' (T.length + 1) (T.length + 2) (by omega)) hS (Z := []) (k := [((⟨4, 0, 0, 0⟩ : Tok), q.length + 3)]) (gk := g) hxs (fun h => absurd rfl h)
    (fun _ F hF => by
      cases F with
      | zero => cases hF
      | succ F => unfold moreRows; rw [if_neg (by show ¬ (4 : Nat) = 5; decide)]; rfl) (.inl rfl)
  rw [List.append_nil, show (0 : Nat) + 0 = 0 from rfl] at hr
  have he : encF fin' (T.length + 3) (moveToks 3 T ++ [((⟨4, 0, 0, 0⟩ : Tok), q.length + 3)]) 0 = .ok (oneOf 3 xs) [] g := by
    unfold encF enclosedP
    show PR.bind (PR.map (oneOf 3) (rowsP fin' (encF fin' (T.length + 2)) _ 0)) _ = _
    rw [hr]
    rfl
  have hp : pieceP fin' (encF fin' (T.length + 3)) (((⟨3, 0, 0, 0⟩ : Tok), 0) :: (moveToks 3 T ++ [((⟨4, 0, 0, 0⟩ : Tok), q.length + 3)])) 0 = .ok (.mk 6 0 0 0 0 [oneOf 3 xs]) [] g := by
    unfold pieceP atomP
    rw [if_neg (by show ¬ (3 : Nat) = 2; decide), if_pos (by show (3 : Nat) = 3; rfl)]
    show PR.bind (PR.map _ (encF fin' (T.length + 3) (moveToks 3 T ++ [((⟨4, 0, 0, 0⟩ : Tok), q.length + 3)]) 0)) _ = _
    rw [he]
    rfl
  have ha : altF fin' ((((⟨3, 0, 0, 0⟩ : Tok), 0) :: (moveToks 3 T ++ [((⟨4, 0, 0, 0⟩ : Tok), q.length + 3)])).length + 1) (((⟨3, 0, 0, 0⟩ : Tok), 0) :: (moveToks 3 T ++ [((⟨4, 0, 0, 0⟩ : Tok), q.length + 3)])) 0 = .ok (.mk 6 0 0 0 0 [oneOf 3 xs]) [] g := by
    rw [show (((⟨3, 0, 0, 0⟩ : Tok), 0) :: (moveToks 3 T ++ [((⟨4, 0, 0, 0⟩ : Tok), q.length + 3)])).length + 1 = T.length + 3 from by simp [moveToks]]
    unfold altF rowsP concatP piecesP
    rw [hp]
    rfl
  rw [ha]
  simp only [PR.bind, if_true]
  rfl
/-! side by side -/
theorem oneOf_kind {k : Int} {l : List Nd} (h : oneOf k l ≠ .mk k 0 0 0 0 l) : ∃ x, l = [x] ∧ oneOf k l = x := by
  match l with
  | [x] => exact ⟨x, rfl, rfl⟩
  | [] => exact absurd rfl h
  | _ :: _ :: _ => exact absurd rfl h
theorem atom_kind {fin : Int} {enc : List TK → Nat → PR Nd} {L : List TK} {g : Nat} {x : Nd} {l : List TK} {g' : Nat} (h : atomP fin enc L g = .ok x l g') : x.kind = 5 ∨ x.kind = 6 ∨ x.kind = 1 := by
  unfold atomP at h
  split at h
  · obtain ⟨y, _, rfl⟩ := map_ok h; exact .inl rfl
  · split at h
    · obtain ⟨y, _, rfl⟩ := map_ok h; exact .inr (.inl rfl)
    · split at h
      · cases h; exact .inr (.inr rfl)
      · cases h
theorem concat_kind {fin : Int} {enc : List TK → Nat → PR Nd} {L : List TK} {g : Nat} {x : Nd} {l : List TK} {g' : Nat} (h : concatP fin enc L g = .ok x l g') : x.kind ≠ 3 := by
  obtain ⟨ps, hps, rfl⟩ := map_ok h
  unfold piecesP at hps
  obtain ⟨y, l1, g1, hy, hz⟩ := bind_ok hps
  obtain ⟨z, hz, rfl⟩ := map_ok hz
  have hyk : y.kind ≠ 3 := by
    unfold pieceP at hy
    obtain ⟨u, l2, g2, hu, hf⟩ := bind_ok hy
    have := atom_kind hu
    split at hf <;> cases hf
    · show (4 : Int) ≠ 3; decide
    · rcases this with h | h | h <;> rw [h] <;> decide
  cases z with
  | nil => exact hyk
  | cons a z => show (2 : Int) ≠ 3; decide
/-- the row that a pattern is, or the row of it alone -/
def rowOf (x : Nd) : List Nd := if x.kind = 3 then x.nodes else [x]
theorem rowOf_rows {fin : Int} {enc : List TK → Nat → PR Nd} {L : List TK} {g : Nat} {xs : List Nd} {l : List TK} {g' : Nat} (h : rowsP fin enc L g = .ok xs l g') : rowOf (oneOf 3 xs) = xs ∧ xs ≠ [] := by
  unfold rowsP at h
  obtain ⟨y, l1, g1, hy, hz⟩ := bind_ok h
  obtain ⟨z, _, rfl⟩ := map_ok hz
  cases z with
  | nil => exact ⟨by show rowOf y = [y]; unfold rowOf; rw [if_neg (concat_kind hy)], by simp⟩
  | cons a z => exact ⟨rfl, by simp⟩
theorem of_rows {cls : List Nat → Option (BitVec 256)} {a b : List Nat} {x y : Nd} {g : Nat} (hx : ofP cls a = .ok false false x g) (hy : ofP cls b = .ok false false y 0) (hl : a.length + b.length ≤ 1023) :
    ofP cls (a ++ 124 :: b) = if goodP (.mk 3 0 0 0 0 (rowOf x ++ rowOf y)) g then .ok false false (.mk 3 0 0 0 0 (rowOf x ++ rowOf y)) g else .err 0 4 := by
  obtain ⟨T, xs, hT, _, hn, hC, h7, h8, hxs, rfl, hg⟩ := of_plain hx
  obtain ⟨U, ys, hU, _, hm, hD, k7, k8, hys, rfl, hgy⟩ := of_plain hy
  obtain ⟨ex, nx⟩ := rowOf_rows hxs
  obtain ⟨ey, ny⟩ := rowOf_rows hys
  rw [ex, ey]
  have c1 : cutAll cls (124 :: b) = (none, (⟨5, 0, 0, 0⟩, 0) :: moveToks 1 U) := by
    have := cutAll_append2 cls [124] b (by rw [cut_one cls 124 [] ⟨5, 0, 0, 0⟩ rfl]) (by rw [cut_one cls 124 [] ⟨5, 0, 0, 0⟩ rfl]; rfl)
    rw [cut_one cls 124 [] ⟨5, 0, 0, 0⟩ rfl, hU] at this
    rw [show 124 :: b = [124] ++ b from rfl, this]
    rfl
  have c2 : cutAll cls (a ++ 124 :: b) = (none, T ++ (⟨5, 0, 0, 0⟩, a.length) :: moveToks (1 + a.length) U) := by
    rw [cutAll_append2 cls a (124 :: b) (by rw [hT]) (by rw [hT]; exact okCut_of_ends T hC), c1, hT]
    simp [moveErr, moveToks, Nat.add_assoc]
  unfold ofP
  rw [if_neg (by simp; omega), c2]
  simp only
  unfold ofTokens
  generalize hR : ((⟨5, 0, 0, 0⟩ : Tok), a.length) :: moveToks (1 + a.length) U = R
  have hkR : kindOf R = 5 := by rw [← hR]; rfl
  have hnR : R ≠ [] := by rw [← hR]; simp
  have e7 : kindOf (T ++ R) ≠ 7 := by have := kind_mv 0 R hn; rw [mv_zero] at this; rw [this]; exact h7
  have e2 : endsWith8 (T ++ R) = false := by
    rw [ends_append _ _ hnR, ← hR, show ((⟨5, 0, 0, 0⟩ : Tok), a.length) :: moveToks (1 + a.length) U = [((⟨5, 0, 0, 0⟩ : Tok), a.length)] ++ moveToks (1 + a.length) U from rfl, ends_append _ _ (mv_ne _ hm), ends_mv, k8]
  have e1 : trimStart (T ++ R) = T ++ R := by unfold trimStart; rw [if_neg e7]
  have hlenR : R.length = U.length + 1 := by rw [← hR]; simp [moveToks]
  rw [read_plain e7 e2, e1, e2]
  generalize (((a ++ 124 :: b).length : Nat) : Int) = fin'
  have hS : Stops R := ⟨by rw [hkR]; decide, by rw [hkR]; decide⟩
  have hb : ∀ F, R.length < F → moreRows fin' (encF fin' ((T ++ R).length + 1)) F R g = .ok ys [] g := by
    intro F hF
    cases F with
    | zero => omega
    | succ F =>
      have hLy := hys
      unfold rowsP at hLy
      obtain ⟨y1, l1, g1, hy1, hzz⟩ := bind_ok hLy
      obtain ⟨z, hz, e⟩ := map_ok hzz
      have hg2 := (moreRows_takes (enc_takes _ _) _ l1 g1 z [] 0 hz).2
      obtain rfl : g1 = 0 := by omega
      have hA := enc_agree (1 + a.length) g [] stops_nil b.length fin' (U.length + 1) ((T ++ R).length + 1) (by rw [List.length_append]; omega)
      have hc := concat_agree (fin := (b.length : Int)) (fin' := fin') (enc_takes _ _) hA _ _ _ _ _ hy1 (.inr stops_nil) (.inr rfl)
      have hlt := takes_length (concat_takes (enc_takes _ _)) hy1
      have hmr := moreRows_agree (fin := (b.length : Int)) (fin' := fin') (enc_takes _ _) hA stops_nil [] [] g (l1.length + 1) F l1 0 z [] 0 (by omega) (by simp [moveToks]; omega) hz (fun h => absurd rfl h) (fun _ => by rw [Nat.zero_add]; exact rows_nil _ _ _) (.inr rfl)
      rw [List.append_nil] at hc hmr
      rw [Nat.zero_add] at hc hmr
      rw [List.append_nil] at hc hmr
      unfold moreRows
      rw [if_pos hkR, ← hR]
      show PR.bind (concatP fin' _ (moveToks (1 + a.length) U) g) _ = _
      rw [hR, hc]
      show PR.map _ (moreRows fin' _ F (moveToks (1 + a.length) l1) g) = _
      rw [hmr, e]
      rfl
  have hr := rows_agree (d := 0) (e := 0) (R := R) (fin' := fin') (enc_takes _ _) (enc_agree 0 0 R hS a.length fin' (T.length + 1) ((T ++ R).length + 1) (by rw [List.length_append]; omega)) hS (Z := ys) (k := []) (gk := g) hxs (fun h => absurd rfl h) (fun _ => by rw [Nat.add_zero]; exact hb) (.inl rfl)
  rw [mv_zero, Nat.add_zero] at hr
  unfold altF
  rw [hr]
  have hone : oneOf 3 (xs ++ ys) = .mk 3 0 0 0 0 (xs ++ ys) := by
    cases xs with
    | nil => exact absurd rfl nx
    | cons c xs =>
      cases xs with
      | nil =>
        cases ys with
        | nil => exact absurd rfl ny
        | cons d ys => rfl
      | cons d xs => rfl
  simp only [PR.map, PR.bind, if_true, hone]
  rw [show (kindOf (T ++ R) == 7) = false from by simpa using e7]
/-! A reader in a block of its own; what leaves all but that block alone; the reader's small steps. -/
theorem two_below (w : World) (o o' : Obj) : Below w.heap.size w ((w.alloc o).alloc o') := ((Below.refl _ _).alloc (Nat.le_refl _) _).alloc (by simp) _
/-- the reader in block R: the tokens that are left, their end, the groups that have begun -/
def RdAt (w : World) (R : Nat) (L : List TK) (fin : Int) (g : Nat) : Prop :=
  ∃ a cap, w.heap[R]? = some (.cells #[.slice a L.length cap, .int .i64 fin, .int .i64 g] 140) ∧ L.length ≤ cap ∧ g + L.length ≤ 1024 ∧ (L = [] ∨ ∃ b off, a = some ⟨b, off, none⟩ ∧ b + 3 < R ∧ ∀ j (hj : j < L.length), Tok8 w b (off + j * 8) (L[j]).1 ((L[j]).2 : Nat))
/-- block R apart, all that is there is as before -/
structure But (R : Nat) (w w' : World) : Prop where
  os : w'.os = w.os
  tape : w'.tape = w.tape
  output : w'.output = w.output
  size : w.heap.size ≤ w'.heap.size
  block : ∀ k, k < w.heap.size → k ≠ R → w'.heap[k]? = w.heap[k]?
theorem But.refl (R : Nat) (w : World) : But R w w := ⟨rfl, rfl, rfl, Nat.le_refl _, fun _ _ _ => rfl⟩
theorem But.trans {R : Nat} {a b c : World} (h : But R a b) (h' : But R b c) : But R a c :=
  ⟨h'.os.trans h.os, h'.tape.trans h.tape, h'.output.trans h.output, Nat.le_trans h.size h'.size, fun k hk hR => (h'.block k (Nat.lt_of_lt_of_le hk h.size) hR).trans (h.block k hk hR)⟩
theorem But.of_below {R : Nat} {w w' : World} (h : Below w.heap.size w w') : But R w w' := ⟨h.os, h.tape, h.output, h.size, fun k hk _ => h.block k hk⟩
theorem But.of_only {R : Nat} {w w' : World} (h : Only R w w') : But R w w' := ⟨h.os, h.tape, h.output, Nat.le_of_eq h.size.symm, fun k _ hR => h.block k hR⟩
theorem But.below {B R : Nat} {a w w' : World} (h : But R w w') (hb : Below B a w) (hB : B ≤ R) (hs : B ≤ w.heap.size) : Below B a w' :=
  hb.trans ⟨h.os, h.tape, h.output, h.size, fun k hk => h.block k (Nat.lt_of_lt_of_le hk hs) (by omega)⟩
theorem But.only_new {R c : Nat} {w w' w'' : World} (h : But R w w') (ho : Only c w' w'') (hc : w.heap.size ≤ c) : But R w w'' :=
  ⟨ho.os.trans h.os, ho.tape.trans h.tape, ho.output.trans h.output, by rw [ho.size]; exact h.size, fun k hk hR => (ho.block k (by omega)).trans (h.block k hk hR)⟩
/-- the world in which nothing can be read below B -/
def killBelow (B : Nat) (w : World) : World := { w with heap := w.heap.mapIdx fun i o => if i < B then .deferred none else o }
theorem kill_size (B : Nat) (w : World) : (killBelow B w).heap.size = w.heap.size := by simp [killBelow]
theorem kill_block {B : Nat} {w : World} {k : Nat} (h : B ≤ k) : (killBelow B w).heap[k]? = w.heap[k]? := by
  simp only [killBelow, Array.getElem?_mapIdx]
  have hn : ¬ k < B := by omega
  cases w.heap[k]? <;> simp [hn]
theorem kill_cell {B : Nat} {w : World} {p : Addr} {v : Value} (h : (killBelow B w).cell? p = some v) : B ≤ p.block ∧ w.cell? p = some v := by
  by_cases hB : B ≤ p.block
  · exact ⟨hB, by rw [← h]; exact (World.cell?_of_block (kill_block hB)).symm⟩
  · exfalso
    unfold World.cell? at h
    simp only [killBelow, Array.getElem?_mapIdx] at h
    have hlt : p.block < B := by omega
    cases hq : w.heap[p.block]? with
    | none => rw [hq] at h; cases h
    | some o => rw [hq] at h; simp only [Option.map_some, if_pos hlt] at h; cases h
/-- a node all of whose lists lie at B and above -/
def NdFrom (B : Nat) (w : World) (x : Nd) (cs : List Value) : Prop := Nd.at (killBelow B w) x cs
theorem kill_keep {B B' : Nat} {w w' : World} (hB : B' ≤ B) (hk : ∀ k, B ≤ k → k < w.heap.size → w'.heap[k]? = w.heap[k]?) {p : Addr} {v : Value} (h : (killBelow B w).cell? p = some v) : (killBelow B' w').cell? p = some v := by
  obtain ⟨h1, h2⟩ := kill_cell h
  rw [← h2, World.cell?_of_block (kill_block (by omega))]
  exact World.cell?_of_block (hk _ h1 (World.block_lt_of_cell? w _ h2))
theorem NdFrom.keep {B B' : Nat} {w w' : World} {x : Nd} {cs : List Value} (h : NdFrom B w x cs) (hB : B' ≤ B) (hs : w.heap.size ≤ w'.heap.size) (hk : ∀ k, B ≤ k → k < w.heap.size → w'.heap[k]? = w.heap[k]?) : NdFrom B' w' x cs :=
  Nd.at_same (fun _ _ => kill_keep hB hk) (by rw [kill_size, kill_size]; exact hs) x cs h
theorem NdFrom.but {R B B' : Nat} {w w' : World} {x : Nd} {cs : List Value} (h : NdFrom B w x cs) (hb : But R w w') (hR : R < B) (hB : B' ≤ B) : NdFrom B' w' x cs := h.keep hB hb.size fun k h1 h2 => hb.block k h2 (by omega)
theorem NdFrom.only {c B B' : Nat} {w w' : World} {x : Nd} {cs : List Value} (h : NdFrom B w x cs) (hb : Only c w w') (hc : c < B) (hB : B' ≤ B) : NdFrom B' w' x cs := h.keep hB (Nat.le_of_eq hb.size.symm) fun k h1 _ => hb.block k (by omega)
theorem NdFrom.alloc {B B' : Nat} {w : World} {x : Nd} {cs : List Value} (h : NdFrom B w x cs) (o : Obj) (hB : B' ≤ B) : NdFrom B' (w.alloc o) x cs := h.keep hB (by simp) fun k _ h2 => Below.heap_alloc w o k h2
theorem NdFrom.at {B : Nat} {w : World} {x : Nd} {cs : List Value} (h : NdFrom B w x cs) : Nd.at w x cs :=
  Nd.at_same (fun _ _ hp => (kill_cell hp).2) (by rw [kill_size]; exact Nat.le_refl _) x cs h
theorem NdFrom.cells {B : Nat} {w : World} {x : Nd} {cs : List Value} (h : NdFrom B w x cs) : ∃ (k : Int) (s : BitVec 256) (lo hi n : Int) (a : Option Addr) (len cap : Nat), cs = [.int .i64 k, .int .u64 (word s 0), .int .u64 (word s 1), .int .u64 (word s 2), .int .u64 (word s 3), .int .i64 lo, .int .i64 hi, .int .i64 n, .slice a len cap] := by
  obtain ⟨s, lo, hi, n, a, cap, _, e⟩ := at_cells h
  exact ⟨_, s, lo, hi, n, a, _, cap, e⟩
/-- a list of nodes all of which lies at B and above -/
def RowFrom (B : Nat) (w : World) (v : Value) (L : List Nd) : Prop :=
  ∃ gb cap, v = .slice (some ⟨gb, 0, none⟩) L.length cap ∧ L.length ≤ cap ∧ L.length ≤ maxLen ∧ B ≤ gb ∧ gb < w.heap.size ∧ nodesAt (killBelow B w) L gb 0
theorem RowFrom.keep {B B' : Nat} {w w' : World} {v : Value} {L : List Nd} (h : RowFrom B w v L) (hB : B' ≤ B) (hs : w.heap.size ≤ w'.heap.size) (hk : ∀ k, B ≤ k → k < w.heap.size → w'.heap[k]? = w.heap[k]?) : RowFrom B' w' v L := by
  obtain ⟨gb, cap, e, h1, h2, h3, h4, h5⟩ := h
  exact ⟨gb, cap, e, h1, h2, by omega, by omega, nodesAt_same (fun _ _ => kill_keep hB hk) (by rw [kill_size, kill_size]; exact hs) _ _ _ h5⟩
/-- a node made of a list -/
theorem RowFrom.node {B : Nat} {w : World} {gb cap : Nat} {L : List Nd} {len : Nat} (h : RowFrom B w (.slice (some ⟨gb, 0, none⟩) len cap) L) {k n : Int} (hk : fits64 k) (hn : fits64 n) : NdFrom B w (.mk k 0 0 0 n L) [.int .i64 k, .int .u64 0, .int .u64 0, .int .u64 0, .int .u64 0, .int .i64 0, .int .i64 0, .int .i64 n, .slice (some ⟨gb, 0, none⟩) len cap] := by
  obtain ⟨gb', cap', e, h1, h2, h3, h4, h5⟩ := h
  injection e with e1 e2 e3
  cases e1
  subst e2 e3
  unfold NdFrom
  rw [at_mk]
  refine ⟨hk, by rfl, by rfl, hn, some ⟨gb, 0, none⟩, cap, ?_, h2, .inr ⟨gb, 0, rfl, h1, by rw [kill_size]; exact h4, h5⟩⟩
  rw [word_zero, word_zero, word_zero, word_zero]
  rfl
/-- a list that the call owns -/
theorem row_owns {B : Nat} {w : World} {v : Value} {n : Nat} (L : List (Nd × List Value)) (hL : ∀ p ∈ L, NdFrom B w p.1 p.2) (hn : n = L.length) (h0 : 0 < n) (h : w.ownsRow B 39 9 v n (L.flatMap (·.2))) : RowFrom B w v (L.map (·.1)) := by
  have h' : (killBelow B w).ownsRow B 39 9 v n (L.flatMap (·.2)) := by
    refine ⟨h.1, ?_⟩
    rcases h.2 with h2 | ⟨g, cap, cur, e, hb, hg, rest⟩
    · exact .inl h2
    · exact .inr ⟨g, cap, cur, e, hb, (kill_block hb).trans hg, rest⟩
  obtain ⟨g, cap, e, h1, h2, h3, h4, h5⟩ := nodesAt_owns L hL hn h0 h'
  rw [kill_size] at h2
  subst hn
  exact ⟨g, cap, by rw [List.length_map]; exact e, by rw [List.length_map]; exact h3, by rw [List.length_map]; exact h4, h1, h2, h5⟩
theorem owns_lit {B : Nat} {w : World} {cs : List Value} (hc : cs.length = 9) (hB : B ≤ w.heap.size) : (w.alloc (.cells cs.toArray 39)).ownsRow B 39 9 (.slice (some ⟨w.heap.size, 0, none⟩) 1 1) 1 cs :=
  ⟨by rw [hc], .inr ⟨w.heap.size, 1, cs.toArray, rfl, hB, World.alloc_heap_new w _, Nat.le_refl _, by decide, by simp [hc], List.take_of_length_le (by simp [hc])⟩⟩
theorem rd_lt {w : World} {R : Nat} {L : List TK} {fin : Int} {g : Nat} (h : RdAt w R L fin g) : R < w.heap.size := by
  obtain ⟨a, cap, h, _⟩ := h
  exact lt_of_block h
theorem RdAt.kept {w w' : World} {R : Nat} {L : List TK} {fin : Int} {g : Nat} (h : RdAt w R L fin g) (hb : Below w.heap.size w w') : RdAt w' R L fin g := by
  have hlt := rd_lt h
  obtain ⟨a, cap, h1, h2, hm, h3⟩ := h
  refine ⟨a, cap, (hb.block R hlt).trans h1, h2, hm, ?_⟩
  rcases h3 with h3 | ⟨b, off, e1, e2, e3⟩
  · exact .inl h3
  · exact .inr ⟨b, off, e1, e2, fun j hj => (e3 j hj).below hb (by omega)⟩
theorem rd_bound {w : World} {R : Nat} {L : List TK} {fin : Int} {g : Nat} (h : RdAt w R L fin g) : g + L.length ≤ 1024 := by
  obtain ⟨_, _, _, _, hm, _⟩ := h; exact hm
theorem NdFrom.below {B : Nat} {w w' : World} {x : Nd} {cs : List Value} (h : NdFrom B w x cs) (hb : Below w.heap.size w w') : NdFrom B w' x cs := h.keep (Nat.le_refl _) hb.size fun k _ h2 => hb.block k h2
theorem row_first {B : Nat} {w : World} {gb cap len : Nat} {x : Nd} {L : List Nd} (h : RowFrom B w (.slice (some ⟨gb, 0, none⟩) len cap) (x :: L)) : ∃ cs, Node9 w gb 0 cs ∧ NdFrom B w x cs := by
  obtain ⟨gb', cap', e, _, _, _, _, h5⟩ := h
  injection e with e1 _ _
  cases e1
  obtain ⟨cs, hc, hcell, hat⟩ := nodes_get _ _ _ _ h5 0 (by simp)
  refine ⟨cs, ⟨hc, fun q hq => ?_⟩, hat⟩
  have h := hcell q hq
  rw [Nat.zero_mul, Nat.add_zero] at h
  rw [List.getElem?_eq_getElem (by omega)] at h ⊢
  exact (kill_cell h).2
theorem RdAt.alloc {w : World} {R : Nat} {L : List TK} {fin : Int} {g : Nat} (h : RdAt w R L fin g) (o : Obj) : RdAt (w.alloc o) R L fin g := h.kept ((Below.refl _ _).alloc (Nat.le_refl _) o)
theorem RdAt.only {w w' : World} {R c : Nat} {L : List TK} {fin : Int} {g : Nat} (h : RdAt w R L fin g) (ho : Only c w w') (hc : R < c) : RdAt w' R L fin g := by
  obtain ⟨a, cap, h1, h2, hm, h3⟩ := h
  refine ⟨a, cap, (ho.block R (by omega)).trans h1, h2, hm, ?_⟩
  rcases h3 with h3 | ⟨b, off, e1, e2, e3⟩
  · exact .inl h3
  · exact .inr ⟨b, off, e1, e2, fun j hj q v hq => by rw [ho.cell (a := ⟨b, off + j * 8 + q, none⟩) (by show b ≠ c; omega)]; exact e3 j hj q v hq⟩
/-- a block that lies between the tokens and the reader -/
theorem RdAt.apart {w w' : World} {R c : Nat} {L : List TK} {fin : Int} {g : Nat} (h : RdAt w R L fin g) (ho : Only c w w') (hc : c < R) (hR : R ≤ c + 3) : RdAt w' R L fin g := by
  obtain ⟨a, cap, h1, h2, hm, h3⟩ := h
  refine ⟨a, cap, (ho.block R (by omega)).trans h1, h2, hm, ?_⟩
  rcases h3 with h3 | ⟨b, off, e1, e2, e3⟩
  · exact .inl h3
  · exact .inr ⟨b, off, e1, e2, fun j hj q v hq => by rw [ho.cell (a := ⟨b, off + j * 8 + q, none⟩) (by show b ≠ c; omega)]; exact e3 j hj q v hq⟩
/-- the first token's fields -/
theorem tok_cells {w : World} {b off : Nat} {t : Tok} {a : Int} (h : Tok8 w b off t a) : w.cell? ⟨b, off, none⟩ = some (.int .i64 t.kind) ∧ w.cell? ⟨b, off + 7, none⟩ = some (.int .i64 a) := ⟨h 0 _ rfl, h 7 _ rfl⟩
theorem rd_cells {w : World} {R : Nat} {v0 v1 v2 : Value} (h : w.heap[R]? = some (.cells #[v0, v1, v2] 140)) : w.cell? ⟨R, 0, none⟩ = some v0 ∧ w.cell? ⟨R, 1, none⟩ = some v1 ∧ w.cell? ⟨R, 2, none⟩ = some v2 ∧ ∀ o, w.frozen? ⟨R, o, none⟩ = false := by
  refine ⟨?_, ?_, ?_, fun o => ?_⟩
  · rw [cells_at h]; rfl
  · rw [cells_at h]; rfl
  · rw [cells_at h]; rfl
  · simp [World.frozen?, h]
/-- what the reader's box holds, opened -/
theorem rd_open {w : World} {R : Nat} {L : List TK} {fin : Int} {g : Nat} (h : RdAt w R L fin g) : ∃ a cap, w.cell? ⟨R, 0, none⟩ = some (.slice a L.length cap) ∧ w.cell? ⟨R, 1, none⟩ = some (.int .i64 fin) ∧ w.cell? ⟨R, 2, none⟩ = some (.int .i64 g) ∧ (∀ o, w.frozen? ⟨R, o, none⟩ = false) ∧ L.length ≤ cap ∧ L.length ≤ 1024 ∧
    (L = [] ∨ ∃ b off t p, a = some ⟨b, off, none⟩ ∧ L.head? = some (t, p) ∧ Tok8 w b off t (p : Nat)) := by
  obtain ⟨a, cap, h1, h2, hm, h3⟩ := h
  obtain ⟨c0, c1, c2, cf⟩ := rd_cells h1
  refine ⟨a, cap, c0, c1, c2, cf, h2, by omega, ?_⟩
  rcases h3 with h3 | ⟨b, off, e1, e2, e3⟩
  · exact .inl h3
  · cases L with
    | nil => exact .inl rfl
    | cons q L =>
      have h := e3 0 (by simp)
      rw [Nat.zero_mul, Nat.add_zero] at h
      exact .inr ⟨b, off, q.1, q.2, e1, rfl, h⟩
set_option maxHeartbeats 1000000 in
theorem kind_walk {w : World} {R : Nat} {L : List TK} {fin : Int} {g : Nat} (h : RdAt w R L fin g) :
    Calls Tryz.prog 85 #[.pointer (some ⟨R, 0, none⟩)] w fun e w' => e = .returned (.int .i64 (kindOf L : Nat)) ∧ w' = w := by
  obtain ⟨a, cap, c0, c1, c2, cf, hc, hm, ht⟩ := rd_open h
  clear h
  cases L with
  | nil =>
    clear ht
    go_enter Tryz.func85, Tryz.ntmps85
    go_wp2
    go_ret
    exact ⟨rfl, rfl⟩
  | cons q L =>
    rcases ht with ht | ⟨b, off, t, p, rfl, hh, h8⟩
    · cases ht
    · obtain ⟨rfl⟩ : q = (t, p) := by simpa using hh
      obtain ⟨k0, _⟩ := tok_cells h8
      have hl : decide (((((t, p) :: L).length : Nat) : Int) = 0) = false := by rw [List.length_cons]; exact decide_eq_false (by omega)
      have hl2 : 0 < ((t, p) :: L).length := by simp
      have hl3 : (0 : Int) < ((((t, p) :: L).length : Nat) : Int) := by rw [List.length_cons]; omega
      generalize ((t, p) :: L).length = n at *
      clear h8 hh
      go_enter Tryz.func85, Tryz.ntmps85
      go_wp2
      go_ret
      exact ⟨rfl, rfl⟩
/-- the reader's box behind the first token -/
theorem rd_step {w : World} {R : Nat} {t : TK} {L : List TK} {fin : Int} {g : Nat} (h : RdAt w R (t :: L) fin g) : ∃ b off cap, w.cell? ⟨R, 0, none⟩ = some (.slice (some ⟨b, off, none⟩) (L.length + 1) cap) ∧ (∀ o, w.frozen? ⟨R, o, none⟩ = false) ∧ L.length + 1 ≤ cap ∧ L.length ≤ 1023 ∧ Tok8 w b off t.1 (t.2 : Nat) ∧ b < R ∧
    ∀ w' a' c', (cap = 1 ∨ a' = (⟨b, off + 8, none⟩ : Addr)) → c' = cap - 1 → w' = w.setCell ⟨R, 0, none⟩ (.slice (some a') L.length c') → RdAt w' R L fin g ∧ Only R w w' := by
  have hlt := rd_lt h
  obtain ⟨a, cap, h1, h2, hm, h3⟩ := h
  obtain ⟨c0, c1, c2, cf⟩ := rd_cells h1
  rcases h3 with h3 | ⟨b, off, rfl, e2, e3⟩
  · cases h3
  · have h8 := e3 0 (by simp)
    rw [Nat.zero_mul, Nat.add_zero] at h8
    simp only [List.length_cons] at h2 hm c0 h1
    refine ⟨b, off, cap, c0, cf, h2, by omega, h8, by omega, ?_⟩
    rintro w' a' c' ha rfl rfl
    have ho : Only R w (w.setCell ⟨R, 0, none⟩ (.slice (some a') L.length (cap - 1))) := ⟨rfl, rfl, rfl, by simp, fun k hk => heap_setCell_other w _ k _ hk⟩
    refine ⟨⟨some a', cap - 1, ?_, by omega, by omega, ?_⟩, ho⟩
    · rw [heap_setCell_same w R 0 _ _ _ h1]; rfl
    · rcases ha with rfl | rfl
      · exact .inl (List.length_eq_zero_iff.1 (by omega))
      · refine .inr ⟨b, off + 8, rfl, e2, fun j hj => ?_⟩
        have h := e3 (j + 1) (by simpa using hj)
        intro q v hq
        rw [ho.cell (a := ⟨b, off + 8 + j * 8 + q, none⟩) (by show b ≠ R; omega)]
        have := h q v hq
        rw [show off + 8 + j * 8 + q = off + (j + 1) * 8 + q from by omega]
        exact this
theorem rd_set {w : World} {R : Nat} {t : TK} {L : List TK} {fin : Int} {g : Nat} (h : RdAt w R (t :: L) fin g) {b off cap : Nat} (c0 : w.cell? ⟨R, 0, none⟩ = some (.slice (some ⟨b, off, none⟩) (L.length + 1) cap)) (a' : Addr) (c' : Nat)
    (ha : cap = 1 ∨ a' = (⟨b, off + 8, none⟩ : Addr)) (hc : c' = cap - 1) : RdAt (w.setCell ⟨R, 0, none⟩ (.slice (some a') L.length c')) R L fin g ∧ Only R w (w.setCell ⟨R, 0, none⟩ (.slice (some a') L.length c')) := by
  obtain ⟨b1, off1, cap1, c1, _, _, _, _, _, hs⟩ := rd_step h
  rw [c0] at c1
  injection c1 with c1
  injection c1 with e1 e2 e3
  cases e1
  subst e3
  exact hs _ a' c' ha hc rfl
set_option maxHeartbeats 1000000 in
/-- skip: the token is there -/
theorem skip_yes {w : World} {R : Nat} {t : TK} {L : List TK} {fin : Int} {g : Nat} (h : RdAt w R (t :: L) fin g) (k : Nat) (hk : t.1.kind = k) :
    Calls Tryz.prog 82 #[.pointer (some ⟨R, 0, none⟩), .int .i64 k] w fun e w' => e = .returned (.bool true) ∧ RdAt w' R L fin g ∧ Only R w w' := by
  have hkw := kind_walk h
  rw [show kindOf (t :: L) = k from hk] at hkw
  obtain ⟨b, off, cap, c0, cf, hc, hm, _, _, hstep⟩ := rd_step h
  have h1 : (1 : Int) ≤ ((L.length + 1 : Nat) : Int) := by omega
  have h2 : ((L.length + 1 : Nat) : Int) ≤ (cap : Int) := by omega
  have Hstep := Lib.hid hstep
  have hf0 := cf 0
  clear hstep cf h hk
  generalize hn : L.length + 1 = n at *
  have Hn := Lib.hid hn
  clear hn
  go_enter Tryz.func82, Tryz.ntmps82
  go_wp2_with fail
  refine hkw.mono ?_
  clear hkw
  rintro e w1 ⟨rfl, rfl⟩
  go_wp2_with fail
  · go_ret
    have hst := Hstep.out _ ⟨b, off, none⟩ 0 (.inl (by assumption)) (by omega) rfl
    obtain rfl := Hn.out.symm
    exact ⟨rfl, hst⟩
  · go_ret
    have hst := Hstep.out _ ⟨b, off + 8, none⟩ _ (.inr rfl) rfl rfl
    obtain rfl := Hn.out.symm
    exact ⟨rfl, hst⟩
set_option maxHeartbeats 1000000 in
/-- skip: it is another -/
theorem skip_no {w : World} {R : Nat} {L : List TK} {fin : Int} {g : Nat} (h : RdAt w R L fin g) (k : Nat) (hk : kindOf L ≠ k) :
    Calls Tryz.prog 82 #[.pointer (some ⟨R, 0, none⟩), .int .i64 k] w fun e w' => e = .returned (.bool false) ∧ w' = w := by
  have hkw := kind_walk h
  generalize kindOf L = n at hkw hk
  have hd : decide (((n : Nat) : Int) = (k : Int)) = false := decide_eq_false (by omega)
  clear h
  go_enter Tryz.func82, Tryz.ntmps82
  go_wp2_with fail
  refine hkw.mono ?_
  clear hkw
  rintro e w1 ⟨rfl, rfl⟩
  go_wp2_with fail
  go_ret
  exact ⟨rfl, rfl⟩
/-- what a reader panics with -/
abbrev misAt (k : Int) : Ending := .panicked [{ v := .iface 138 (.int .i64 k), recovered := false }]
set_option maxHeartbeats 1000000 in
theorem misplace_walk {w : World} {R : Nat} {L : List TK} {fin : Int} {g : Nat} (h : RdAt w R L fin g) :
    Calls Tryz.prog 86 #[.pointer (some ⟨R, 0, none⟩)] w fun e w' => e = misAt (placeOf fin L) ∧ w' = w := by
  obtain ⟨a, cap, c0, c1, c2, cf, hc, hm, ht⟩ := rd_open h
  clear h
  cases L with
  | nil =>
    clear ht
    go_enter Tryz.func86, Tryz.ntmps86
    go_wp2
    exact ⟨rfl, rfl, rfl⟩
  | cons q L =>
    rcases ht with ht | ⟨b, off, t, p, rfl, hh, h8⟩
    · cases ht
    · obtain ⟨rfl⟩ : q = (t, p) := by simpa using hh
      obtain ⟨_, k7⟩ := tok_cells h8
      have hl : decide (((((t, p) :: L).length : Nat) : Int) = 0) = false := by rw [List.length_cons]; exact decide_eq_false (by omega)
      have hl2 : 0 < ((t, p) :: L).length := by simp
      have hl3 : (0 : Int) < ((((t, p) :: L).length : Nat) : Int) := by rw [List.length_cons]; omega
      generalize ((t, p) :: L).length = n at *
      clear h8 hh
      go_enter Tryz.func86, Tryz.ntmps86
      go_wp2
      exact ⟨rfl, rfl, rfl⟩
set_option maxHeartbeats 1000000 in
theorem atPiece_walk {w : World} {R : Nat} {L : List TK} {fin : Int} {g : Nat} (h : RdAt w R L fin g) :
    Calls Tryz.prog 125 #[.pointer (some ⟨R, 0, none⟩)] w fun e w' => e = .returned (.bool (startsPiece (kindOf L))) ∧ w' = w := by
  have hkw := kind_walk h
  clear h
  generalize kindOf L = n at hkw ⊢
  have hS : startsPiece n = (decide (n = 1) || decide (n = 2) || decide (n = 3)) := by unfold startsPiece; rfl
  rw [hS]
  by_cases h1 : n = 1
  · subst h1
    go_enter Tryz.func125, Tryz.ntmps125
    go_wp2_with fail
    refine hkw.mono ?_
    rintro e w1 ⟨rfl, rfl⟩
    go_wp2_with fail
    go_ret
    exact ⟨rfl, rfl⟩
  by_cases h2 : n = 2
  · subst h2
    go_enter Tryz.func125, Tryz.ntmps125
    go_wp2_with fail
    refine hkw.mono ?_
    rintro e w1 ⟨rfl, rfl⟩
    go_wp2_with fail
    go_ret
    exact ⟨rfl, rfl⟩
  have d1 : ((n : Int) == 1) = false := by simp; omega
  have d2 : ((n : Int) == 2) = false := by simp; omega
  have d3 : ((n : Int) == 3) = decide (n = 3) := by
    by_cases h3 : n = 3
    · subst h3; rfl
    · rw [decide_eq_false h3]; simp; omega
  rw [decide_eq_false h1, decide_eq_false h2, Bool.false_or, Bool.false_or]
  generalize decide (n = 3) = b at d3 ⊢
  go_enter Tryz.func125, Tryz.ntmps125
  go_wp2_with fail
  refine hkw.mono ?_
  rintro e w1 ⟨rfl, rfl⟩
  go_wp2_with fail
  go_ret
  exact ⟨rfl, rfl⟩
/-! The reader takes a token; what is one alone is that one itself. -/
/-- a token in a block of its own -/
def TokIn (w : World) (b : Nat) (cs : Array Value) : Prop := w.heap[b]? = some (.cells cs 135)
theorem wpList_store_tok {ops : Array Oper} {rest : List Oper} {o : Oper} {a : Act} {w : World} {Q : Exit → Act → World → Prop} (hgd : o.guard = none) (x y : Operand) (ho : o.op = .store 135 x y)
    (b : Nat) (cs ds : Array Value) (hx : a.eval x = .pointer (some ⟨b, 0, none⟩)) (hy : a.eval y = .agg ds) (hb : TokIn w b cs) (hd : ds.size = 8) (hc : cs.size = 8) (h1 : (ds.all fun x => x.oneCell') = true)
    (h : ∀ w', TokIn w' b ds → Only b w w' → wpList Tryz.prog ops Q rest (a.put o.dst undef) w') : wpList Tryz.prog ops Q (o :: rest) a w :=
  wpList_store_row hgd _ _ _ ho b _ hx hy _ _ hb (by rw [hd]; exact infoTok) (by rw [hd, hc]) h1 (h _ (setRow_heap w b _ _ _ _ hb) (only_row _ _ _))
theorem results_tok {fn : Func} {p : Tmp} (h : fn.results = #[.cell p 135]) (tmps : Array Value) (w : World) (b : Nat) (cs : Array Value) (hp : tmps.getD p undef = .pointer (some ⟨b, 0, none⟩)) (hs : TokIn w b cs) (hc : cs.size = 8) :
    (results fn tmps).run Tryz.prog w = .ok (.agg cs) w := results_cell_row h tmps w b _ _ _ _ hp hs Tryz.underlying135 rfl (show _ = some cs.size from by rw [hc]; exact infoTok)
theorem tok8_in {w : World} {b : Nat} {t : Tok} {a : Int} (h : TokIn w b #[.int .i64 t.kind, .int .u64 (word t.set 0), .int .u64 (word t.set 1), .int .u64 (word t.set 2), .int .u64 (word t.set 3), .int .i64 t.lo, .int .i64 t.hi, .int .i64 a]) : Tok8 w b 0 t a := by
  intro j v hj
  rw [Nat.zero_add, cells_at h]
  simpa using hj
set_option maxHeartbeats 2000000 in
theorem take_yes {w : World} {R : Nat} {t : TK} {L : List TK} {fin : Int} {g : Nat} (h : RdAt w R (t :: L) fin g) (k : Nat) (hk : t.1.kind = k) :
    Calls Tryz.prog 136 #[.pointer (some ⟨R, 0, none⟩), .int .i64 k] w fun e w' => e = .returned (tokV t.1 (t.2 : Nat)) ∧ RdAt w' R L fin g ∧ But R w w' := by
  have hlt := rd_lt h
  have hkw := fun o : Obj => kind_walk (h.alloc o)
  rw [show kindOf (t :: L) = k from hk] at hkw
  obtain ⟨b, off, cap, c0, cf, hc, hm, h8, hbR, _⟩ := rd_step h
  obtain ⟨t, p⟩ := t
  have h1 : (1 : Int) ≤ ((L.length + 1 : Nat) : Int) := by omega
  have h2 : ((L.length + 1 : Nat) : Int) ≤ (cap : Int) := by omega
  have h0 : (0 : Int) < ((L.length + 1 : Nat) : Int) := by omega
  have h0' : 0 < L.length + 1 := by omega
  have h8a : ∀ o : Obj, Tok8 (w.alloc o) b off t p := fun o => h8.below ((Below.refl _ _).alloc (Nat.le_refl _) o) (by omega)
  have ca : ∀ o : Obj, (w.alloc o).cell? ⟨R, 0, none⟩ = some (.slice (some ⟨b, off, none⟩) (L.length + 1) cap) := fun o => by
    rw [((Below.refl w.heap.size w).alloc (Nat.le_refl _) o).cell (p := ⟨R, 0, none⟩) hlt]; exact c0
  have cb : ∀ o o' : Obj, ((w.alloc o).alloc o').cell? ⟨R, 0, none⟩ = some (.slice (some ⟨b, off, none⟩) (L.length + 1) cap) := fun o o' => by
    rw [(two_below w o o').cell (p := ⟨R, 0, none⟩) hlt]; exact c0
  have fb : ∀ o o' : Obj, ((w.alloc o).alloc o').frozen? ⟨R, 0, none⟩ = false := fun o o' => by
    rw [World.frozen?_of_block ((two_below w o o').block R hlt)]; exact cf 0
  have hR2 := fun o o' : Obj => (h.alloc o).alloc o'
  have HR2 := Lib.hid hR2
  have Hlt := Lib.hid hlt
  have H8 := Lib.hid h8a
  clear h hk h8 hlt hR2 h8a cf c0
  have h5 : ∀ (o : Obj) (v : Value), Tok8 (((w.alloc o).alloc (.cells #[.int .i64 t.kind, .int .u64 (word t.set 0), .int .u64 (word t.set 1), .int .u64 (word t.set 2), .int .u64 (word t.set 3), .int .i64 t.lo, .int .i64 t.hi, .int .i64 (p : Nat)] 135)).setCell ⟨R, 0, none⟩ v) (w.heap.size + 1) 0 t p := fun o v => by
    refine tok8_in ((heap_setCell_other _ _ _ _ (by have := Hlt.out; show w.heap.size + 1 ≠ R; omega)).trans ?_)
    have h := World.alloc_heap_new (w.alloc o) (.cells #[.int .i64 t.kind, .int .u64 (word t.set 0), .int .u64 (word t.set 1), .int .u64 (word t.set 2), .int .u64 (word t.set 3), .int .i64 t.lo, .int .i64 t.hi, .int .i64 (p : Nat)] 135)
    rw [World.size_alloc] at h
    exact h
  have hZ : ∀ (o : Obj) (v : Value), TokIn (((w.alloc (.cells #[.int .i64 0, .int .u64 0, .int .u64 0, .int .u64 0, .int .u64 0, .int .i64 0, .int .i64 0, .int .i64 0] 135)).alloc o).setCell ⟨R, 0, none⟩ v) w.heap.size #[.int .i64 0, .int .u64 0, .int .u64 0, .int .u64 0, .int .u64 0, .int .i64 0, .int .i64 0, .int .i64 0] := fun o v =>
    (heap_setCell_other _ _ _ _ (by have := Hlt.out; show w.heap.size ≠ R; omega)).trans ((Below.heap_alloc _ _ _ (by simp)).trans (World.alloc_heap_new w _))
  have H5 := Lib.hid h5
  have HZ := Lib.hid hZ
  have cb0 := Lib.hid cb
  clear h5 hZ
  generalize hn : L.length + 1 = n at *
  have Hn := Lib.hid hn
  clear hn
  by_cases hcap : cap = 1
  · have Hcap := Lib.hid hcap
    go_enter Tryz.func136, Tryz.ntmps136
    go_wp2_with fail
    refine (hkw _).mono ?_
    clear hkw
    rintro e w1 ⟨rfl, rfl⟩
    go_wp2_with (first
      | (refine wpList_load_tok rfl _ rfl b off t p rfl (H8.out _) ?_)
      | (refine wpList_load_tok rfl _ rfl (w.heap.size + 1) 0 t p rfl (H5.out _ _) ?_)
      | (refine wpList_store_tok rfl _ _ rfl w.heap.size #[.int .i64 0, .int .u64 0, .int .u64 0, .int .u64 0, .int .u64 0, .int .i64 0, .int .i64 0, .int .i64 0] #[.int .i64 t.kind, .int .u64 (word t.set 0), .int .u64 (word t.set 1), .int .u64 (word t.set 2), .int .u64 (word t.set 3), .int .i64 t.lo, .int .i64 t.hi, .int .i64 (p : Nat)] rfl rfl (HZ.out _ _) rfl rfl (by simp [Value.oneCell']) ?_; intro w4 hn4 ho4)
      | fail)
    have hlt := Hlt.out
    obtain rfl := Hn.out.symm
    have hrs := fun o o' : Obj => rd_set (a' := ⟨b, off, none⟩) (c' := 0) (HR2.out o o') (cb0.out o o') (.inl Hcap.out) (by have := Hcap.out; omega)
    have hb2 : But R w w4 := But.only_new (But.trans (But.of_below (two_below w _ _)) (But.of_only (hrs _ _).2)) ho4 (Nat.le_refl _)
    exact bodyPost_ret (results_tok rfl _ _ w.heap.size _ rfl hn4 rfl) rfl ⟨rfl, RdAt.only (hrs _ _).1 ho4 hlt, hb2⟩
  · have Hcap := Lib.hid hcap
    go_enter Tryz.func136, Tryz.ntmps136
    go_wp2_with fail
    refine (hkw _).mono ?_
    clear hkw
    rintro e w1 ⟨rfl, rfl⟩
    go_wp2_with (first
      | (refine wpList_load_tok rfl _ rfl b off t p rfl (H8.out _) ?_)
      | (refine wpList_load_tok rfl _ rfl (w.heap.size + 1) 0 t p rfl (H5.out _ _) ?_)
      | (refine wpList_store_tok rfl _ _ rfl w.heap.size #[.int .i64 0, .int .u64 0, .int .u64 0, .int .u64 0, .int .u64 0, .int .i64 0, .int .i64 0, .int .i64 0] #[.int .i64 t.kind, .int .u64 (word t.set 0), .int .u64 (word t.set 1), .int .u64 (word t.set 2), .int .u64 (word t.set 3), .int .i64 t.lo, .int .i64 t.hi, .int .i64 (p : Nat)] rfl rfl (HZ.out _ _) rfl rfl (by simp [Value.oneCell']) ?_; intro w4 hn4 ho4)
      | fail)
    have hlt := Hlt.out
    obtain rfl := Hn.out.symm
    have hrs := fun o o' : Obj => rd_set (a' := ⟨b, off + 8, none⟩) (c' := cap - 1) (HR2.out o o') (cb0.out o o') (.inr rfl) rfl
    have hb2 : But R w w4 := But.only_new (But.trans (But.of_below (two_below w _ _)) (But.of_only (hrs _ _).2)) ho4 (Nat.le_refl _)
    exact bodyPost_ret (results_tok rfl _ _ w.heap.size _ rfl hn4 rfl) rfl ⟨rfl, RdAt.only (hrs _ _).1 ho4 hlt, hb2⟩
set_option maxHeartbeats 2000000 in
/-- take: another token stands there -/
theorem take_no {w : World} {R : Nat} {L : List TK} {fin : Int} {g : Nat} (h : RdAt w R L fin g) (k : Nat) (hk : kindOf L ≠ k) :
    Calls Tryz.prog 136 #[.pointer (some ⟨R, 0, none⟩), .int .i64 k] w fun e w' => e = misAt (placeOf fin L) ∧ But R w w' := by
  have hkw := fun o : Obj => kind_walk (h.alloc o)
  have hms := fun o : Obj => misplace_walk (h.alloc o)
  generalize kindOf L = n at hkw hk
  have hd : decide (((n : Nat) : Int) = (k : Int)) = false := decide_eq_false (by omega)
  clear h
  go_enter Tryz.func136, Tryz.ntmps136
  go_wp2_with fail
  refine (hkw _).mono ?_
  clear hkw
  rintro e w1 ⟨rfl, rfl⟩
  go_wp2_with fail
  refine (hms _).mono ?_
  rintro e w1 ⟨rfl, rfl⟩
  exact ⟨rfl, rfl, But.of_below ((Below.refl _ _).alloc (Nat.le_refl _) _)⟩
/-! What is one alone is that one itself; an alternative and the bracket behind it. -/
/-- what a reader of nodes does -/
def NodePost (R : Nat) (w : World) (fin : Int) : PR Nd → Ending → World → Prop
  | .bad k, e, w' => e = misAt k ∧ But R w w'
  | .ok x l g, e, w' => ∃ cs : List Value, e = .returned (.agg cs.toArray) ∧ NdFrom w.heap.size w' x cs ∧ RdAt w' R l fin g ∧ But R w w'
def RowPost (R : Nat) (w : World) (fin : Int) : PR Nd → Ending → World → Prop
  | .bad k, e, w' => e = misAt k ∧ But R w w'
  | .ok x l g, e, w' => ∃ (gb cap : Nat), e = .returned (.slice (some ⟨gb, 0, none⟩) 1 cap) ∧ RowFrom w.heap.size w' (.slice (some ⟨gb, 0, none⟩) 1 cap) [x] ∧ RdAt w' R l fin g ∧ But R w w'
theorem node_zero {w : World} : NodeIn (w.alloc (.cells #[.int .i64 0, .int .u64 0, .int .u64 0, .int .u64 0, .int .u64 0, .int .i64 0, .int .i64 0, .int .i64 0, .slice none 0 0] 39)) w.heap.size #[.int .i64 0, .int .u64 0, .int .u64 0, .int .u64 0, .int .u64 0, .int .i64 0, .int .i64 0, .int .i64 0, .slice none 0 0] := World.alloc_heap_new w _
set_option maxHeartbeats 2000000 in
theorem node_walk {B : Nat} {w : World} {gb len cap : Nat} {L : List Nd} (h : RowFrom B w (.slice (some ⟨gb, 0, none⟩) len cap) L) (k : Int) (hk : fits64 k) (hB : B ≤ w.heap.size) :
    Calls Tryz.prog 105 #[.int .i64 k, .slice (some ⟨gb, 0, none⟩) len cap] w fun e w' => ∃ cs : List Value, e = .returned (.agg cs.toArray) ∧ NdFrom B w' (oneOf k L) cs ∧ Below w.heap.size w w' := by
  have hlen : len = L.length := by obtain ⟨_, _, e, _⟩ := h; injection e
  have HB := Lib.hid hB
  clear hB
  by_cases h1 : len = 1
  · obtain ⟨x, rfl⟩ : ∃ x, L = [x] := by
      match L, hlen with
      | [x], _ => exact ⟨x, rfl⟩
      | [], h => simp at h; omega
      | _ :: _ :: _, h => simp at h; omega
    obtain ⟨cs, h9, hat⟩ := row_first h
    obtain ⟨kq, sq, loq, hiq, nq, aq, lenq, capq, rfl⟩ := hat.cells
    have hlt : gb < w.heap.size := by obtain ⟨_, _, e, _, _, _, h4, _⟩ := h; injection e with e; cases e; exact h4
    have h9' : ∀ o : Obj, Node9 (w.alloc o) gb 0 _ := fun o => ⟨h9.1, fun q hq => by rw [((Below.refl w.heap.size w).alloc (Nat.le_refl _) o).cell (p := ⟨gb, 0 + q, none⟩) hlt]; exact h9.2 q hq⟩
    have Hat := Lib.hid hat
    subst h1
    clear h hk h9 hat hlen
    go_enter Tryz.func105, Tryz.ntmps105
    go_wp2_with (first
      | (refine wpList_load_node rfl _ rfl gb 0 _ rfl (h9' _) ?_; clear h9')
      | (refine wpList_store_node rfl _ _ rfl w.heap.size _ #[.int .i64 kq, .int .u64 (word sq 0), .int .u64 (word sq 1), .int .u64 (word sq 2), .int .u64 (word sq 3), .int .i64 loq, .int .i64 hiq, .int .i64 nq, .slice aq lenq capq] rfl rfl node_zero rfl rfl (by simp [Value.oneCell']) ?_; intro w4 hn4 ho4)
      | fail)
    have hb := ho4.below ((Below.refl _ _).alloc (Nat.le_refl _) _) (Nat.le_refl _)
    exact bodyPost_ret (results_node rfl _ _ w.heap.size _ rfl hn4 rfl) rfl ⟨_, rfl, Hat.out.below hb, hb⟩
  · have hd : decide ((len : Int) = 1) = false := decide_eq_false (by omega)
    have hone : oneOf k L = .mk k 0 0 0 0 L := by
      match L, hlen with
      | [x], h => simp at h; omega
      | [], _ => rfl
      | _ :: _ :: _, _ => rfl
    rw [hone]
    have Hnd := Lib.hid (h.node hk (show fits64 0 by rfl))
    have hd2 : ((len : Int) == 1) = false := by simp; omega
    clear h hk hlen hone
    go_enter Tryz.func105, Tryz.ntmps105
    go_wp2_with fail
    have hb := fun o : Obj => (Below.refl w.heap.size w).alloc (Nat.le_refl _) o
    exact bodyPost_ret (results_node rfl _ _ w.heap.size _ rfl (World.alloc_heap_new w _) rfl) rfl ⟨_, rfl, Hnd.out.below (hb _), hb _⟩
set_option maxHeartbeats 2000000 in
theorem enclosed_walk {w : World} {R : Nat} {L : List TK} {fin : Int} {g : Nat} (h : RdAt w R L fin g) (alt : List TK → Nat → PR Nd)
    (hA : Calls Tryz.prog 84 #[.pointer (some ⟨R, 0, none⟩)] w (NodePost R w fin (alt L g))) :
    Calls Tryz.prog 145 #[.pointer (some ⟨R, 0, none⟩)] w (RowPost R w fin (enclosedP fin alt L g)) := by
  have Hlt := Lib.hid (rd_lt h)
  clear h
  unfold enclosedP
  cases hr : alt L g with
  | bad k =>
    rw [hr] at hA
    show Calls _ _ _ _ fun e w' => e = misAt k ∧ But R w w'
    go_enter Tryz.func145, Tryz.ntmps145
    go_wp2_with fail
    refine hA.mono ?_
    rintro e w1 ⟨rfl, hb⟩
    exact ⟨rfl, rfl, hb⟩
  | ok x l g' =>
    rw [hr] at hA
    by_cases hk : kindOf l = 4
    · show Calls _ _ _ _ (RowPost R w fin (if kindOf l = 4 then .ok x l.tail g' else .bad (placeOf fin l)))
      rw [if_pos hk]
      obtain ⟨t, ht, htk⟩ := kind_cons hk (by decide)
      generalize l.tail = l2 at ht ⊢
      subst ht
      show Calls _ _ _ _ fun e w' => ∃ (gb cap : Nat), e = .returned (.slice (some ⟨gb, 0, none⟩) 1 cap) ∧ RowFrom w.heap.size w' (.slice (some ⟨gb, 0, none⟩) 1 cap) [x] ∧ RdAt w' R l2 fin g' ∧ But R w w'
      have Htk := Lib.hid htk
      clear hk hr htk
      go_enter Tryz.func145, Tryz.ntmps145
      go_wp2_with fail
      refine hA.mono ?_
      rintro e w1 ⟨cs, rfl, hnd, hrd, hb⟩
      obtain ⟨kq, sq, loq, hiq, nq, aq, lenq, capq, rfl⟩ := hnd.cells
      have Hnd := Lib.hid hnd
      have Hb := Lib.hid hb
      have hty := fun o : Obj => take_yes (hrd.alloc o) 4 Htk.out
      clear hnd hb hA hrd
      go_wp2_with fail
      refine (hty _).mono ?_
      clear hty
      rintro e w3 ⟨rfl, hrd3, hb3⟩
      have Hrd3 := Lib.hid hrd3
      have Hb3 := Lib.hid hb3
      clear hrd3 hb3
      go_wp2_with fail
      go_ret
      have hrow := row_owns (B := w.heap.size) [(x, _)] (by simpa using Hnd.out.alloc _ (Nat.le_refl _)) rfl (by simp) (owns_lit (cs := _) rfl Hb.out.size)
      refine ⟨_, _, rfl, hrow.keep (Nat.le_refl _) Hb3.out.size (fun k h1 h2 => Hb3.out.block k h2 (by have := Hlt.out; omega)), Hrd3.out, (Hb.out.trans (But.of_below ((Below.refl _ _).alloc (Nat.le_refl _) _))).trans Hb3.out⟩
    · show Calls _ _ _ _ (RowPost R w fin (if kindOf l = 4 then .ok x l.tail g' else .bad (placeOf fin l)))
      rw [if_neg hk]
      show Calls _ _ _ _ fun e w' => e = misAt (placeOf fin l) ∧ But R w w'
      have Hk := Lib.hid hk
      clear hk hr
      go_enter Tryz.func145, Tryz.ntmps145
      go_wp2_with fail
      refine hA.mono ?_
      rintro e w1 ⟨cs, rfl, hnd, hrd, hb⟩
      obtain ⟨kq, sq, loq, hiq, nq, aq, lenq, capq, rfl⟩ := hnd.cells
      have Hb := Lib.hid hb
      have hty := fun o : Obj => take_no (hrd.alloc o) 4 Hk.out
      clear hnd hb hA hrd
      go_wp2_with fail
      refine (hty _).mono ?_
      clear hty
      rintro e w3 ⟨rfl, hb3⟩
      exact ⟨rfl, rfl, (Hb.out.trans (But.of_below ((Below.refl _ _).alloc (Nat.le_refl _) _))).trans hb3⟩
/-! The reader reads a piece without its repetition. -/
abbrev zero9 : Array Value := #[.int .i64 0, .int .u64 0, .int .u64 0, .int .u64 0, .int .u64 0, .int .i64 0, .int .i64 0, .int .i64 0, .slice none 0 0]
/-- one group more has begun -/
theorem rd_group {w : World} {R : Nat} {L : List TK} {fin : Int} {g : Nat} (h : RdAt w R L fin g) (hg : g + 1 + L.length ≤ 1024) :
    RdAt (w.setCell ⟨R, 2, none⟩ (.int .i64 ((g : Int) + 1))) R L fin (g + 1) ∧ Only R w (w.setCell ⟨R, 2, none⟩ (.int .i64 ((g : Int) + 1))) := by
  have ho : Only R w (w.setCell ⟨R, 2, none⟩ (.int .i64 ((g : Int) + 1))) := ⟨rfl, rfl, rfl, by simp, fun k hk => heap_setCell_other w _ k _ hk⟩
  refine ⟨?_, ho⟩
  obtain ⟨a, cap, h1, h2, hm, h3⟩ := h
  refine ⟨a, cap, by rw [heap_setCell_same w R 2 _ _ _ h1]; rfl, h2, hg, ?_⟩
  rcases h3 with h3 | ⟨b, off, e1, e2, e3⟩
  · exact .inl h3
  · exact .inr ⟨b, off, e1, e2, fun j hj q v hq => by rw [ho.cell (a := ⟨b, off + j * 8 + q, none⟩) (by show b ≠ R; omega)]; exact e3 j hj q v hq⟩
/-- a box of zeros that was made ahead of it stands behind what the reader does -/
theorem box_but {R c : Nat} {w w' : World} (h : But R w w') (hn : NodeIn w c zero9) (hc : c ≠ R) : NodeIn w' c zero9 := (h.block c (lt_of_block hn) hc).trans hn
/-- the tokens' bounds are numbers -/
def Bounded (L : List TK) : Prop := ∀ t ∈ L, fits64 t.1.lo ∧ fits64 t.1.hi
theorem field_one (x0 x1 x2 x3 x4 x5 x6 x7 : Value) (w : World) : (Instr.field 135 (.agg #[x0, x1, x2, x3, x4, x5, x6, x7]) 1).run Tryz.prog w = .ok (.agg #[x1, x2, x3, x4]) w := by kernel_rfl
theorem field_set (t : Tok) (a : Int) (w : World) : (Instr.field 135 (tokV t a) 1).run Tryz.prog w = .ok (SV t.set) w := field_one _ _ _ _ _ _ _ _ w
set_option maxHeartbeats 4000000 in
theorem atom_walk {w : World} {R : Nat} {L : List TK} {fin : Int} {g : Nat} (h : RdAt w R L fin g) (hL : Bounded L) (enc : List TK → Nat → PR Nd)
    (hE : ∀ (w : World) (L' : List TK) (g : Nat), L'.length < L.length → Bounded L' → RdAt w R L' fin g → Calls Tryz.prog 145 #[.pointer (some ⟨R, 0, none⟩)] w (RowPost R w fin (enc L' g))) :
    Calls Tryz.prog 135 #[.pointer (some ⟨R, 0, none⟩)] w (NodePost R w fin (atomP fin enc L g)) := by
  have hlt := rd_lt h
  have Hlt := Lib.hid hlt
  have hR1 := fun o : Obj => h.alloc o
  have HZ := Lib.hid (@node_zero w)
  obtain ⟨W1, hW1⟩ : ∃ W1, W1 = w.alloc (.cells zero9 39) := ⟨_, rfl⟩
  have hB1 : But R w W1 := by rw [hW1]; exact But.of_below ((Below.refl _ _).alloc (Nat.le_refl _) _)
  have hs1 : W1.heap.size = w.heap.size + 1 := by rw [hW1]; simp
  have HZ1 : Hid (NodeIn W1 w.heap.size zero9) := by rw [hW1]; exact World.alloc_heap_new w _
  have hR1 : RdAt W1 R L fin g := by rw [hW1]; exact h.alloc _
  have HB1 := Lib.hid hB1
  have Hs1 := Lib.hid hs1
  unfold atomP
  by_cases hk2 : kindOf L = 2
  · rw [if_pos hk2]
    obtain ⟨t, ht, htk⟩ := kind_cons hk2 (by decide)
    generalize L.tail = L2 at ht ⊢
    subst ht
    have hbd := rd_bound h
    simp only [List.length_cons] at hbd
    have hsk := skip_yes hR1 2 htk
    have hE2 := fun w' => hE w' L2 (g + 1) (by simp) (fun t ht => hL t (by simp [ht]))
    have hg1 : ((g : Nat) : Int) + 1 ≤ 9223372036854775807 := by omega
    have hg0 : (0 : Int) ≤ (g : Nat) := by omega
    have Hbd := Lib.hid hbd
    have HE2 := Lib.hid hE2
    clear h hL hR1 hE hE2 hk2 htk hbd hB1 hs1 HZ hlt
    show Calls _ _ _ _ (NodePost R w fin ((enc L2 (g + 1)).map fun x => .mk 5 0 0 0 ((g + 1 : Nat) : Int) [x]))
    go_enter Tryz.func135, Tryz.ntmps135
    go_wp2_with fail
    have hW1' := hW1
    rw [← hW1]
    refine hsk.mono ?_
    clear hsk
    rintro e w2 ⟨rfl, hR2, ho2⟩
    obtain ⟨a2, cap2, _, _, c2, cf, _, _, _⟩ := rd_open hR2
    have hf2 := cf 2
    have hg2 := rd_group hR2 (by have := Hbd.out; omega)
    have c2' : (w2.setCell ⟨R, 2, none⟩ (.int .i64 ((g : Int) + 1))).cell? ⟨R, 2, none⟩ = some (.int .i64 ((g : Int) + 1)) := World.cell?_setCell_same _ _ _ c2
    have Hg2 := Lib.hid hg2
    have Ho2 := Lib.hid ho2
    clear hR2 ho2 hg2 cf
    have HZ2 : Hid (NodeIn (w2.setCell ⟨R, 2, none⟩ (.int .i64 ((g : Int) + 1))) w.heap.size zero9) := box_but ((But.of_only Ho2.out).trans (But.of_only Hg2.out.2)) HZ1.out (by have := Hlt.out; omega)
    have Hb2 : Hid (But R w (w2.setCell ⟨R, 2, none⟩ (.int .i64 ((g : Int) + 1)))) := (HB1.out.trans (But.of_only Ho2.out)).trans (But.of_only Hg2.out.2)
    have Hs2 : Hid ((w2.setCell ⟨R, 2, none⟩ (.int .i64 ((g : Int) + 1))).heap.size = w.heap.size + 1) := by show _ = _; rw [Hg2.out.2.size, Ho2.out.size]; exact Hs1.out
    have hcall := HE2.out _ Hg2.out.1
    go_wp2_with fail
    clear hW1 hW1'
    cases hr : enc L2 (g + 1) with
    | bad k =>
      rw [hr] at hcall
      refine hcall.mono ?_
      rintro e w3 ⟨rfl, hb3⟩
      refine ⟨rfl, ?_⟩
      rw [hr]
      exact ⟨rfl, Hb2.out.trans hb3⟩
    | ok x l g' =>
      rw [hr] at hcall
      refine hcall.mono ?_
      have Hr := Lib.hid hr
      clear hcall hr
      rintro e w3 ⟨gb, cap, rfl, hrow, hR3, hb3⟩
      have HZ3 : Hid (NodeIn w3 w.heap.size zero9) := box_but hb3 HZ2.out (by have := Hlt.out; omega)
      have Hrow := Lib.hid hrow
      have HR3 := Lib.hid hR3
      have Hb3 := Lib.hid hb3
      clear hrow hR3 hb3 c2 c2' hf2
      go_wp2_with (first
        | (refine wpList_store_node rfl _ _ rfl w.heap.size zero9 #[.int .i64 5, .int .u64 0, .int .u64 0, .int .u64 0, .int .u64 0, .int .i64 0, .int .i64 0, .int .i64 ((g : Int) + 1), .slice (some ⟨gb, 0, none⟩) 1 cap] rfl rfl HZ3.out rfl rfl (by simp [Value.oneCell']) ?_; intro w4 hn4 ho4)
        | fail)
      have hb4 := (Hb2.out.trans Hb3.out).only_new ho4 (Nat.le_refl _)
      have hnd := (Hrow.out.node (k := 5) (n := ((g : Int) + 1)) (by rfl) (by show (Lit.int .i64 ((g : Int) + 1)).wf = true; simp [Lit.wf, IntKind.min, IntKind.max, IntKind.signed, IntKind.bits]; omega)).only (c := w.heap.size) (B' := w.heap.size) ho4 (by rw [Hs2.out]; omega) (by rw [Hs2.out]; omega)
      exact bodyPost_ret (results_node rfl _ _ w.heap.size _ rfl hn4 rfl) rfl (by rw [Hr.out]; exact ⟨_, rfl, hnd, HR3.out.only ho4 Hlt.out, hb4⟩)
  rw [if_neg hk2]
  have hn2 := skip_no hR1 2 hk2
  by_cases hk3 : kindOf L = 3
  · rw [if_pos hk3]
    obtain ⟨t, ht, htk⟩ := kind_cons hk3 (by decide)
    generalize L.tail = L2 at ht ⊢
    subst ht
    have hsk := skip_yes hR1 3 htk
    have hE2 := fun w' => hE w' L2 g (by simp) (fun t ht => hL t (by simp [ht]))
    have HE2 := Lib.hid hE2
    clear h hL hR1 hE hE2 hk2 hk3 htk hB1 hs1 HZ hlt
    go_enter Tryz.func135, Tryz.ntmps135
    go_wp2_with fail
    rw [← hW1]
    refine hn2.mono ?_
    clear hn2
    rintro e w2 ⟨rfl, rfl⟩
    clear hW1
    go_wp2_with fail
    refine hsk.mono ?_
    clear hsk
    rintro e w2 ⟨rfl, hR2, ho2⟩
    have HZ2 : Hid (NodeIn w2 w.heap.size zero9) := box_but (But.of_only ho2) HZ1.out (by have := Hlt.out; omega)
    have Hb2 : Hid (But R w w2) := HB1.out.trans (But.of_only ho2)
    have Hs2 : Hid (w2.heap.size = w.heap.size + 1) := by show _ = _; rw [ho2.size]; exact Hs1.out
    have hcall := HE2.out _ hR2
    clear hR2 ho2
    go_wp2_with fail
    cases hr : enc L2 g with
    | bad k =>
      rw [hr] at hcall
      refine hcall.mono ?_
      rintro e w3 ⟨rfl, hb3⟩
      refine ⟨rfl, ?_⟩
      rw [hr]
      exact ⟨rfl, Hb2.out.trans hb3⟩
    | ok x l g' =>
      rw [hr] at hcall
      refine hcall.mono ?_
      have Hr := Lib.hid hr
      clear hcall hr
      rintro e w3 ⟨gb, cap, rfl, hrow, hR3, hb3⟩
      have HZ3 : Hid (NodeIn w3 w.heap.size zero9) := box_but hb3 HZ2.out (by have := Hlt.out; omega)
      have Hrow := Lib.hid hrow
      have HR3 := Lib.hid hR3
      have Hb3 := Lib.hid hb3
      clear hrow hR3 hb3
      go_wp2_with (first
        | (refine wpList_store_node rfl _ _ rfl w.heap.size zero9 #[.int .i64 6, .int .u64 0, .int .u64 0, .int .u64 0, .int .u64 0, .int .i64 0, .int .i64 0, .int .i64 0, .slice (some ⟨gb, 0, none⟩) 1 cap] rfl rfl HZ3.out rfl rfl (by simp [Value.oneCell']) ?_; intro w4 hn4 ho4)
        | fail)
      have hb4 := (Hb2.out.trans Hb3.out).only_new ho4 (Nat.le_refl _)
      have hnd := (Hrow.out.node (k := 6) (n := 0) (by rfl) (by rfl)).only (c := w.heap.size) (B' := w.heap.size) ho4 (by rw [Hs2.out]; omega) (by rw [Hs2.out]; omega)
      exact bodyPost_ret (results_node rfl _ _ w.heap.size _ rfl hn4 rfl) rfl (by rw [Hr.out]; exact ⟨_, rfl, hnd, HR3.out.only ho4 Hlt.out, hb4⟩)
  rw [if_neg hk3]
  have hn3 := skip_no hR1 3 hk3
  by_cases hk1 : kindOf L = 1
  · rw [if_pos hk1]
    obtain ⟨t, ht, htk⟩ := kind_cons hk1 (by decide)
    generalize L.tail = L2 at ht ⊢
    subst ht
    have hty := take_yes hR1 1 htk
    obtain ⟨t, p⟩ := t
    have hfld := fun w' => field_set t (p : Nat) w'
    show Calls _ _ _ _ fun e w' => ∃ cs : List Value, e = .returned (.agg cs.toArray) ∧ NdFrom w.heap.size w' (.mk 1 t.set 0 0 0 []) cs ∧ RdAt w' R L2 fin g ∧ But R w w'
    clear h hL hR1 hE hk2 hk3 hk1 htk hB1 hs1 HZ hlt
    go_enter Tryz.func135, Tryz.ntmps135
    go_wp2_with fail
    rw [← hW1]
    refine hn2.mono ?_
    clear hn2
    rintro e w2 ⟨rfl, rfl⟩
    clear hW1
    go_wp2_with fail
    refine hn3.mono ?_
    clear hn3
    rintro e w2 ⟨rfl, rfl⟩
    go_wp2_with fail
    refine hty.mono ?_
    clear hty
    rintro e w3 ⟨rfl, hR3, hb3⟩
    have HZ3 : Hid (NodeIn w3 w.heap.size zero9) := box_but hb3 HZ1.out (by have := Hlt.out; omega)
    have HR3 := Lib.hid hR3
    have Hb3 := Lib.hid hb3
    clear hR3 hb3
    go_wp2_with (first
      | (refine wpList_store_node rfl _ _ rfl w.heap.size zero9 #[.int .i64 1, .int .u64 (word t.set 0), .int .u64 (word t.set 1), .int .u64 (word t.set 2), .int .u64 (word t.set 3), .int .i64 0, .int .i64 0, .int .i64 0, .slice none 0 0] rfl rfl HZ3.out rfl rfl (by simp [Value.oneCell']) ?_; intro w4 hn4 ho4)
      | fail)
    have hb4 := (HB1.out.trans Hb3.out).only_new ho4 (Nat.le_refl _)
    exact bodyPost_ret (results_node rfl _ _ w.heap.size _ rfl hn4 rfl) rfl ⟨_, rfl, at_plain t.set (by rfl) (by rfl) (by rfl) (by rfl), HR3.out.only ho4 Hlt.out, hb4⟩
  · rw [if_neg hk1]
    have hty := take_no hR1 1 hk1
    show Calls _ _ _ _ fun e w' => e = misAt (placeOf fin L) ∧ But R w w'
    clear h hL hR1 hE hk2 hk3 hk1 hB1 hs1 HZ hlt
    go_enter Tryz.func135, Tryz.ntmps135
    go_wp2_with fail
    rw [← hW1]
    refine hn2.mono ?_
    clear hn2
    rintro e w2 ⟨rfl, rfl⟩
    clear hW1
    go_wp2_with fail
    refine hn3.mono ?_
    clear hn3
    rintro e w2 ⟨rfl, rfl⟩
    go_wp2_with fail
    refine hty.mono ?_
    rintro e w3 ⟨rfl, hb3⟩
    exact ⟨rfl, rfl, HB1.out.trans hb3⟩
/-! The reader reads a piece with its repetition. -/
theorem NdFrom.mk4 {B : Nat} {w : World} {gb cap len : Nat} {L : List Nd} (h : RowFrom B w (.slice (some ⟨gb, 0, none⟩) len cap) L) {lo hi : Int} (h1 : fits64 lo) (h2 : fits64 hi) : NdFrom B w (.mk 4 0 lo hi 0 L) [.int .i64 4, .int .u64 0, .int .u64 0, .int .u64 0, .int .u64 0, .int .i64 lo, .int .i64 hi, .int .i64 0, .slice (some ⟨gb, 0, none⟩) len cap] := by
  obtain ⟨gb', cap', e, g1, g2, g3, g4, g5⟩ := h
  injection e with e1 e2 e3
  cases e1
  subst e2 e3
  unfold NdFrom
  rw [at_mk]
  refine ⟨by rfl, h1, h2, by rfl, some ⟨gb, 0, none⟩, cap, ?_, g2, .inr ⟨gb, 0, rfl, g1, by rw [kill_size]; exact g4, g5⟩⟩
  rw [word_zero, word_zero, word_zero, word_zero]
  rfl
theorem node_in_alloc (w : World) (cs : Array Value) : NodeIn (w.alloc (.cells cs 39)) w.heap.size cs := World.alloc_heap_new w _
set_option maxHeartbeats 4000000 in
theorem piece_walk {w : World} {R : Nat} {L : List TK} {fin : Int} {g : Nat} (h : RdAt w R L fin g) (hL : Bounded L) (enc : List TK → Nat → PR Nd) (hT : TakesE enc)
    (hE : ∀ (w : World) (L' : List TK) (g : Nat), L'.length < L.length → Bounded L' → RdAt w R L' fin g → Calls Tryz.prog 145 #[.pointer (some ⟨R, 0, none⟩)] w (RowPost R w fin (enc L' g))) :
    Calls Tryz.prog 124 #[.pointer (some ⟨R, 0, none⟩)] w (NodePost R w fin (pieceP fin enc L g)) := by
  have hlt := rd_lt h
  have Hlt := Lib.hid hlt
  obtain ⟨W1, hW1⟩ : ∃ W1, W1 = w.alloc (.cells zero9 39) := ⟨_, rfl⟩
  have HB1 : Hid (But R w W1) := by rw [hW1]; exact But.of_below ((Below.refl _ _).alloc (Nat.le_refl _) _)
  have Hs1 : Hid (W1.heap.size = w.heap.size + 1) := by rw [hW1]; show _ = _; simp
  have HZ1 : Hid (NodeIn W1 w.heap.size zero9) := by rw [hW1]; exact World.alloc_heap_new w _
  have hR1 : RdAt W1 R L fin g := by rw [hW1]; exact h.alloc _
  have hat := atom_walk hR1 hL enc hE
  have htk := fun x l g' (hr : atomP fin enc L g = .ok x l g') => atom_takes (fin := fin) hT hr
  unfold pieceP
  clear hE h hT hlt
  cases hr : atomP fin enc L g with
  | bad k =>
    rw [hr] at hat
    show Calls _ _ _ _ fun e w' => e = misAt k ∧ But R w w'
    clear hr htk hR1
    go_enter Tryz.func124, Tryz.ntmps124
    go_wp2_with fail
    rw [← hW1]
    refine hat.mono ?_
    rintro e w2 ⟨rfl, hb2⟩
    exact ⟨rfl, rfl, HB1.out.trans hb2⟩
  | ok x l g' =>
    rw [hr] at hat
    obtain ⟨⟨C, u, _, hC⟩, _⟩ := htk x l g' hr
    have hLl : Bounded l := fun t ht => hL t (by rw [hC]; simp [ht])
    clear htk hr hC hL hR1
    by_cases hk : kindOf l = 6
    · show Calls _ _ _ _ (NodePost R w fin (if kindOf l = 6 then .ok (.mk 4 0 (loHead l) (hiHead l) 0 [x]) l.tail g' else .ok x l g'))
      rw [if_pos hk]
      obtain ⟨t, ht, htk⟩ := kind_cons hk (by decide)
      generalize l.tail = l2 at ht ⊢
      subst ht
      obtain ⟨t, p⟩ := t
      have hbd := hLl (t, p) (by simp)
      show Calls _ _ _ _ fun e w' => ∃ cs : List Value, e = .returned (.agg cs.toArray) ∧ NdFrom w.heap.size w' (.mk 4 0 t.lo t.hi 0 [x]) cs ∧ RdAt w' R l2 fin g' ∧ But R w w'
      have Hbd := Lib.hid hbd
      clear hLl hbd
      go_enter Tryz.func124, Tryz.ntmps124
      go_wp2_with fail
      rw [← hW1]
      refine hat.mono ?_
      clear hat
      rintro e w2 ⟨cs, rfl, hnd2, hR2, hb2⟩
      obtain ⟨kq, sq, loq, hiq, nq, aq, lenq, capq, rfl⟩ := hnd2.cells
      have hkw := fun o : Obj => kind_walk (hR2.alloc o)
      rw [show kindOf ((t, p) :: l2) = 6 from hk] at hkw
      have hty := fun o : Obj => take_yes (hR2.alloc o) 6 htk
      have HZ2 : Hid (NodeIn w2 w.heap.size zero9) := box_but hb2 HZ1.out (by have := Hlt.out; omega)
      have Hb2 := Lib.hid hb2
      have Hnd2 := Lib.hid hnd2
      clear hW1 hb2 hnd2 hR2 hk htk
      go_wp2_with fail
      refine (hkw _).mono ?_
      clear hkw
      rintro e w3 ⟨rfl, rfl⟩
      go_wp2_with fail
      refine (hty _).mono ?_
      clear hty
      rintro e w3 ⟨rfl, hR3, hb3⟩
      have hlt2 : w.heap.size < w2.heap.size := by have h1 := Hs1.out; have h2 := Hb2.out.size; omega
      have h9 : ∀ o : Obj, Node9 (w3.alloc o) w2.heap.size 0 [.int .i64 kq, .int .u64 (word sq 0), .int .u64 (word sq 1), .int .u64 (word sq 2), .int .u64 (word sq 3), .int .i64 loq, .int .i64 hiq, .int .i64 nq, .slice aq lenq capq] := fun o => by
        refine node9_in ((Below.heap_alloc w3 o w2.heap.size (by have := hb3.size; simp at this; omega)).trans ((hb3.block w2.heap.size (by simp) (by have := Hlt.out; omega)).trans (node_in_alloc w2 _))) rfl
      have hZ3 : ∀ o o' : Obj, NodeIn ((w3.alloc o).alloc o') w.heap.size zero9 := fun o o' =>
        ((two_below w3 o o').block w.heap.size (by have := hb3.size; simp at this; omega)).trans (box_but hb3 ((Below.heap_alloc w2 _ w.heap.size hlt2).trans HZ2.out) (by have := Hlt.out; omega))
      have HZ3 := Lib.hid hZ3
      have HR3 := Lib.hid hR3
      have Hb3 := Lib.hid hb3
      clear hR3 hb3 hZ3
      go_wp2_with (first
        | (refine wpList_load_node rfl _ rfl w2.heap.size 0 _ rfl (h9 _) ?_; clear h9)
        | (refine wpList_store_node rfl _ _ rfl w.heap.size zero9 #[.int .i64 4, .int .u64 0, .int .u64 0, .int .u64 0, .int .u64 0, .int .i64 t.lo, .int .i64 t.hi, .int .i64 0, .slice (some ⟨w3.heap.size + 1, 0, none⟩) 1 1] rfl rfl (HZ3.out _ _) rfl rfl (by simp [Value.oneCell']) ?_; intro w4 hn4 ho4)
        | fail)
      have hown := fun o : Obj => owns_lit (B := W1.heap.size) (w := w3.alloc o) (cs := [.int .i64 kq, .int .u64 (word sq 0), .int .u64 (word sq 1), .int .u64 (word sq 2), .int .u64 (word sq 3), .int .i64 loq, .int .i64 hiq, .int .i64 nq, .slice aq lenq capq]) rfl (by have h1 := Hb2.out.size; have h2 := Hb3.out.size; simp at h2 ⊢; omega)
      have hnd3 := fun o o' : Obj => (((((Hnd2.out.alloc _ (Nat.le_refl _)).but Hb3.out (by have := Hlt.out; rw [Hs1.out]; omega) (Nat.le_refl _)).alloc o (Nat.le_refl _)).alloc o' (Nat.le_refl _)) : NdFrom W1.heap.size _ x _)
      have hrow := fun o : Obj => row_owns (B := W1.heap.size) [(x, [.int .i64 kq, .int .u64 (word sq 0), .int .u64 (word sq 1), .int .u64 (word sq 2), .int .u64 (word sq 3), .int .i64 loq, .int .i64 hiq, .int .i64 nq, .slice aq lenq capq])] (by simpa using hnd3 o _) rfl (by simp) (hown o)
      have hb4 : But R w w4 := But.only_new (But.trans (But.trans (But.trans (But.trans HB1.out Hb2.out) (But.of_below ((Below.refl _ _).alloc (Nat.le_refl _) _))) Hb3.out) (But.of_below (two_below _ _ _))) ho4 (Nat.le_refl _)
      have hnd4 := fun o : Obj => NdFrom.mk4 (hrow o) Hbd.out.1 Hbd.out.2
      simp only [World.size_alloc] at hnd4
      exact bodyPost_ret (results_node rfl _ _ w.heap.size _ rfl hn4 rfl) rfl ⟨_, rfl, (hnd4 _).only ho4 (by rw [Hs1.out]; omega) (by rw [Hs1.out]; omega), ((HR3.out.alloc _).alloc _).only ho4 Hlt.out, hb4⟩
    · show Calls _ _ _ _ (NodePost R w fin (if kindOf l = 6 then .ok (.mk 4 0 (loHead l) (hiHead l) 0 [x]) l.tail g' else .ok x l g'))
      rw [if_neg hk]
      show Calls _ _ _ _ fun e w' => ∃ cs : List Value, e = .returned (.agg cs.toArray) ∧ NdFrom w.heap.size w' x cs ∧ RdAt w' R l fin g' ∧ But R w w'
      have hd6 : decide (((kindOf l : Nat) : Int) = 6) = false := decide_eq_false (by omega)
      have hd6' : (((kindOf l : Nat) : Int) == 6) = false := by simp; omega
      clear hLl
      go_enter Tryz.func124, Tryz.ntmps124
      go_wp2_with fail
      rw [← hW1]
      refine hat.mono ?_
      clear hat
      rintro e w2 ⟨cs, rfl, hnd2, hR2, hb2⟩
      obtain ⟨kq, sq, loq, hiq, nq, aq, lenq, capq, rfl⟩ := hnd2.cells
      have hkw := fun o : Obj => kind_walk (hR2.alloc o)
      have HZ2 : Hid (NodeIn w2 w.heap.size zero9) := box_but hb2 HZ1.out (by have := Hlt.out; omega)
      have hlt2 : w.heap.size < w2.heap.size := by have h1 := Hs1.out; have h2 := hb2.size; omega
      have h9 : Node9 (w2.alloc (.cells ([.int .i64 kq, .int .u64 (word sq 0), .int .u64 (word sq 1), .int .u64 (word sq 2), .int .u64 (word sq 3), .int .i64 loq, .int .i64 hiq, .int .i64 nq, .slice aq lenq capq] : List Value).toArray 39)) w2.heap.size 0 [.int .i64 kq, .int .u64 (word sq 0), .int .u64 (word sq 1), .int .u64 (word sq 2), .int .u64 (word sq 3), .int .i64 loq, .int .i64 hiq, .int .i64 nq, .slice aq lenq capq] := node9_in (node_in_alloc w2 _) rfl
      have HZ3 : Hid (∀ o : Obj, NodeIn (w2.alloc o) w.heap.size zero9) := fun o => (Below.heap_alloc w2 _ w.heap.size hlt2).trans HZ2.out
      have HR2 := Lib.hid hR2
      have Hb2 := Lib.hid hb2
      have Hnd2 := Lib.hid hnd2
      clear hW1 hb2 hnd2 hR2 hlt2
      generalize kindOf l = kl at hkw hd6 hd6' hk
      go_wp2_with fail
      refine (hkw _).mono ?_
      clear hkw
      rintro e w3 ⟨rfl, rfl⟩
      go_wp2_with (first
        | (refine wpList_load_node rfl _ rfl w2.heap.size 0 _ rfl h9 ?_; clear h9)
        | (refine wpList_store_node rfl _ _ rfl w.heap.size zero9 #[.int .i64 kq, .int .u64 (word sq 0), .int .u64 (word sq 1), .int .u64 (word sq 2), .int .u64 (word sq 3), .int .i64 loq, .int .i64 hiq, .int .i64 nq, .slice aq lenq capq] rfl rfl (HZ3.out _) rfl rfl (by simp [Value.oneCell']) ?_; intro w4 hn4 ho4)
        | fail)
      have hb4 : But R w w4 := But.only_new (But.trans (But.trans HB1.out Hb2.out) (But.of_below ((Below.refl _ _).alloc (Nat.le_refl _) _))) ho4 (Nat.le_refl _)
      exact bodyPost_ret (results_node rfl _ _ w.heap.size _ rfl hn4 rfl) rfl ⟨_, rfl, (Hnd2.out.alloc _ (Nat.le_refl _)).only ho4 (by rw [Hs1.out]; omega) (by rw [Hs1.out]; omega), (HR2.out.alloc _).only ho4 Hlt.out, hb4⟩
/-! The reader reads a concatenation. -/
theorem But.grown {R : Nat} {w w' : World} (h : But R w w') : w.grownBy w' (some R) := ⟨h.os, h.tape, h.output, h.size, fun k hk hR => h.block k hk (fun e => hR (by rw [e]))⟩
theorem owns_but {R B : Nat} {w w' : World} {e : TypeId} {size n : Nat} {v : Value} {xs : List Value} (h : w.ownsRow B e size v n xs) (hb : But R w w') (hR : R < B) : w'.ownsRow B e size v n xs :=
  h.kept hb.grown (.inr fun e => by have := h.lt R e; omega)
theorem but_grown {R B : Nat} {w w' w'' : World} {e : TypeId} {size n : Nat} {v : Value} {xs : List Value} (h : But R w w') (ho : w'.ownsRow B e size v n xs) (hg : w'.grownBy w'' v.ownBlock) (hB : w.heap.size ≤ B) : But R w w'' :=
  ⟨hg.os.trans h.os, hg.tape.trans h.tape, hg.output.trans h.output, Nat.le_trans h.size hg.size, fun k hk hR => (hg.block k (Nat.lt_of_lt_of_le hk h.size) (fun e => by have := (ho.lt k e.symm).1; omega)).trans (h.block k hk hR)⟩
/-- a node that lies at B and above, and not in the block that a list owns -/
def NdFree (B : Nat) (w : World) (v : Value) (x : Nd) (cs : List Value) : Prop := ∃ g, v.ownBlock = some g ∧ NdFrom B (w.putObj g (.deferred none)) x cs
theorem put_block {w : World} {g k : Nat} {o : Obj} (h : k ≠ g) : (w.putObj g o).heap[k]? = w.heap[k]? := World.putObj_heap_other h
theorem put_cell {w : World} {g : Nat} {p : Addr} {v : Value} (h : (w.putObj g (.deferred none)).cell? p = some v) : p.block ≠ g ∧ w.cell? p = some v := by
  by_cases hg : p.block = g
  · exfalso
    unfold World.cell? at h
    by_cases hlt : g < w.heap.size
    · rw [hg, World.putObj_heap_same hlt] at h; cases h
    · rw [hg, show (w.putObj g (.deferred none)).heap[g]? = none from Array.getElem?_eq_none (by simp; omega)] at h; cases h
  · exact ⟨hg, by rw [← h]; exact (World.cell?_of_block (put_block hg)).symm⟩
theorem NdFree.free {B : Nat} {w : World} {v : Value} {x : Nd} {cs : List Value} (h : NdFree B w v x cs) : NdFrom B w x cs := by
  obtain ⟨g, _, h⟩ := h
  refine Nd.at_same (fun p u hp => ?_) (by rw [kill_size, kill_size]; simp) x cs h
  obtain ⟨h1, h2⟩ := kill_cell hp
  rw [World.cell?_of_block (kill_block h1)]
  exact (put_cell h2).2
theorem NdFree.step {B : Nat} {w w' : World} {v v' : Value} {x : Nd} {cs : List Value} (h : NdFree B w v x cs) (hs : w.heap.size ≤ w'.heap.size) (hk : ∀ k, B ≤ k → k < w.heap.size → v.ownBlock ≠ some k → w'.heap[k]? = w.heap[k]?)
    (hv : v'.ownBlock = v.ownBlock ∨ ∃ g', v'.ownBlock = some g' ∧ w.heap.size ≤ g') : NdFree B w' v' x cs := by
  obtain ⟨g, hg, h⟩ := h
  obtain ⟨g', hg', hne⟩ : ∃ g', v'.ownBlock = some g' ∧ (g' = g ∨ w.heap.size ≤ g') := by
    rcases hv with hv | ⟨g', h1, h2⟩
    · exact ⟨g, by rw [hv, hg], .inl rfl⟩
    · exact ⟨g', h1, .inr h2⟩
  refine ⟨g', hg', Nd.at_same (fun p u hp => ?_) (by rw [kill_size, kill_size]; simpa using hs) x cs h⟩
  obtain ⟨h1, h2⟩ := kill_cell hp
  obtain ⟨h3, h4⟩ := put_cell h2
  have hlt := World.block_lt_of_cell? w _ h4
  rw [World.cell?_of_block (kill_block h1), World.cell?_of_block (put_block (by omega)), World.cell?_of_block (hk _ h1 hlt (fun e => h3 (by rw [hg] at e; injection e with e; exact e.symm)))]
  exact h4
theorem NdFree.new {B B2 g : Nat} {w w' : World} {v : Value} {x : Nd} {cs : List Value} (h : NdFrom B2 w x cs) (hB : B ≤ B2) (hs : w.heap.size ≤ w'.heap.size) (hk : ∀ k, B2 ≤ k → k < w.heap.size → w'.heap[k]? = w.heap[k]?) (hv : v.ownBlock = some g) (hg : g < B2 ∨ w.heap.size ≤ g) : NdFree B w' v x cs := by
  refine ⟨g, hv, Nd.at_same (fun p u hp => ?_) (by rw [kill_size, kill_size]; simpa using hs) x cs h⟩
  obtain ⟨h1, h2⟩ := kill_cell hp
  have hlt := World.block_lt_of_cell? w _ h2
  rw [World.cell?_of_block (kill_block (by omega)), World.cell?_of_block (put_block (by omega)), World.cell?_of_block (hk _ h1 hlt)]
  exact h2
/-- append of one node: the list stays where it is, or lies in a new block -/
theorem wpList_append_fresh {ops : Array Oper} {rest : List Oper} {o : Oper} {a : Act} {w : World} {Q : Exit → Act → World → Prop} (hgd : o.guard = none) (s x : Operand)
    (ho : o.op = .call { callee := .builtin .append, args := #[s, x], argTypes := #[37, 37] }) (base : Nat) (v : Value) (n : Nat) (xs : List Value) (hs : a.eval s = v)
    (hown : w.ownsRow base 39 9 v n xs) (b : Nat) (cs : List Value) (hx : a.eval x = .slice (some ⟨b, 0, none⟩) 1 1) (hc : Node9 w b 0 cs) (h1 : ∀ u ∈ cs, u.oneCell' = true) (hn : n < 1000000000000) (hn0 : 0 < n) (hbase : base ≤ w.heap.size)
    (h : ∀ v' w', w'.ownsRow base 39 9 v' (n + 1) (xs ++ cs) → w.grownBy w' v.ownBlock → (v'.ownBlock = v.ownBlock ∨ ∃ g', v'.ownBlock = some g' ∧ w.heap.size ≤ g') → wpList Tryz.prog ops Q rest (a.put o.dst v') w') : wpList Tryz.prog ops Q (o :: rest) a w := by
  obtain ⟨i0, hi, hz0, hz1, hz2⟩ := info_parts info_node
  have hnews : ∀ j u, cs[j]? = some u → w.cell? ((⟨b, 0, none⟩ : Addr).add j) = some u := by
    intro j u hj
    have hjl : j < 9 := by rw [← hc.1]; exact (List.getElem?_eq_some_iff.1 hj).1
    rw [addr_at, hc.2 j hjl, hj]
  have hl : cs.length = 1 * 9 := by rw [hc.1]
  obtain ⟨v', w', hr, h2, h3, _⟩ := run_append_own (P := Tryz.prog) w base 37 o.type 39 i0 zeroNode 9 88 Tryz.underlying37 hi hz0 hz1 hz2 rfl (by decide) v n xs hown ⟨b, 0, none⟩ 1 1 cs hl hnews h1 (by unfold maxLen; omega) (by omega) hbase
  have hfresh : v'.ownBlock = v.ownBlock ∨ ∃ g', v'.ownBlock = some g' ∧ w.heap.size ≤ g' := by
    rcases hown.2 with ⟨_, h0⟩ | ⟨g, cap, cur, rfl, _, hg, hnc, hcm, hcs, _⟩
    · omega
    · by_cases hroom : n + 1 ≤ cap
      · have hr2 := run_append_room (P := Tryz.prog) w 37 o.type 39 i0 Tryz.underlying37 hi g n cap cur hg ⟨b, 0, none⟩ 1 1 cs (by rw [hl, hz1]) hnews h1 hroom (by rw [hz1, hl, hcs]; omega)
        rw [hr] at hr2
        injection hr2 with e _
        rw [e]
        exact .inl rfl
      · have hr2 := run_append_grow (P := Tryz.prog) w 37 o.type 39 i0 zeroNode Tryz.underlying37 hi hz0 ⟨g, 0, none⟩ n cap xs (by rw [hown.1, hz1]) (hown.cells (g := g) rfl) ⟨b, 0, none⟩ 1 1 cs (by rw [hl, hz1]) hnews (by omega) (by omega) (growslice_fits (by omega) (by rw [hz2]; omega))
        rw [hr] at hr2
        injection hr2 with e _
        rw [e]
        exact .inr ⟨_, rfl, Nat.le_refl _⟩
  refine wpList_plain hgd fun _ hK => ?_
  unfold Oper.wp execOp
  simp only [ho, resolve, invoke, builtin, Sem.run_bind, Sem.run_pure, Result.andThen_ok, List.map_toArray, List.map_cons, List.map_nil, hs, hx, hr]
  exact hK _ _ (h v' w' h2 h3 hfresh)
set_option maxHeartbeats 8000000 in
theorem concat_walk {w : World} {R : Nat} {L : List TK} {fin : Int} {g : Nat} (h : RdAt w R L fin g) (hL : Bounded L) (enc : List TK → Nat → PR Nd) (hT : TakesE enc)
    (hE : ∀ (w : World) (L' : List TK) (g : Nat), L'.length < L.length → Bounded L' → RdAt w R L' fin g → Calls Tryz.prog 145 #[.pointer (some ⟨R, 0, none⟩)] w (RowPost R w fin (enc L' g))) :
    Calls Tryz.prog 104 #[.pointer (some ⟨R, 0, none⟩)] w (NodePost R w fin (concatP fin enc L g)) := by
  have Hlt := Lib.hid (rd_lt h)
  have HBD := Lib.hid (rd_bound h)
  obtain ⟨W1, hW1⟩ : ∃ W1, W1 = w.alloc (.cells zero9 39) := ⟨_, rfl⟩
  have HB1 : Hid (But R w W1) := by rw [hW1]; exact But.of_below ((Below.refl _ _).alloc (Nat.le_refl _) _)
  have Hs1 : Hid (W1.heap.size = w.heap.size + 1) := by rw [hW1]; show _ = _; simp
  have HZ1 : Hid (NodeIn W1 w.heap.size zero9) := by rw [hW1]; exact World.alloc_heap_new w _
  have hR1 : RdAt W1 R L fin g := by rw [hW1]; exact h.alloc _
  have hpw := piece_walk hR1 hL enc hT hE
  obtain ⟨P, hP⟩ : ∃ P, P = NodePost R w fin (concatP fin enc L g) := ⟨_, rfl⟩
  rw [← hP]
  have HP := Lib.hid hP
  have HL := Lib.hid hL
  have HE := Lib.hid hE
  have HT := Lib.hid hT
  have HW1 := Lib.hid hW1
  clear hE h hL hT hP hR1 hW1
  go_enter Tryz.func104, Tryz.ntmps104
  go_wp2_with fail
  rw [← HW1.out]
  cases hr : pieceP fin enc L g with
  | bad k =>
    rw [hr] at hpw
    refine hpw.mono ?_
    rintro e w2 ⟨rfl, hb2⟩
    refine ⟨rfl, ?_⟩
    rw [HP.out]
    have hc : concatP fin enc L g = .bad k := by
      unfold concatP piecesP
      rw [hr]; rfl
    rw [hc]
    exact ⟨rfl, HB1.out.trans hb2⟩
  | ok x0 l0 g0 =>
    rw [hr] at hpw
    have Hr := Lib.hid hr
    refine hpw.mono ?_
    clear hpw hr
    rintro e w2 ⟨cs, rfl, hnd2, hR2, hb2⟩
    obtain ⟨kq, sq, loq, hiq, nq, aq, lenq, capq, rfl⟩ := hnd2.cells
    have Hb2 := Lib.hid hb2
    have Hnd2 := Lib.hid hnd2
    have HR2 := Lib.hid hR2
    clear hb2 hnd2 hR2
    go_wp2_with fail
    go_loopg [3] (l0.length + 1) (fun k v wr => ∃ (v0 : Value) (acc : List (Nd × List Value)) (l : List TK) (g' : Nat), v0 = v ∧ Hid (acc ≠ [] ∧ l.length < k) ∧ Hid (piecesP fin enc L g = (moreP fin enc k l g').map (acc.map (·.1) ++ ·)) ∧ Hid (∀ p ∈ acc, NdFree W1.heap.size wr v p.1 p.2) ∧
      Hid (wr.ownsRow W1.heap.size 39 9 v acc.length (acc.flatMap (·.2))) ∧ Hid (RdAt wr R l fin g') ∧ Hid (But R W1 wr) ∧ Hid (Bounded l ∧ l.length ≤ L.length ∧ acc.length + l.length ≤ L.length))
    case atStart =>
      have htk := piece_takes HT.out L g x0 l0 g0 Hr.out
      obtain ⟨⟨C, hCn, _, hC⟩, _⟩ := htk
      have hCl := List.length_pos_iff.mpr hCn
      have hlen : L.length = C.length + l0.length := by rw [hC, List.length_append]
      refine ⟨_, [(x0, [.int .i64 kq, .int .u64 (word sq 0), .int .u64 (word sq 1), .int .u64 (word sq 2), .int .u64 (word sq 3), .int .i64 loq, .int .i64 hiq, .int .i64 nq, .slice aq lenq capq])], l0, g0, rfl, ⟨by simp, Nat.lt_succ_self _⟩, ?_, ?_, owns_lit (cs := [.int .i64 kq, .int .u64 (word sq 0), .int .u64 (word sq 1), .int .u64 (word sq 2), .int .u64 (word sq 3), .int .i64 loq, .int .i64 hiq, .int .i64 nq, .slice aq lenq capq]) rfl Hb2.out.size, HR2.out.alloc _, Hb2.out.trans (But.of_below ((Below.refl _ _).alloc (Nat.le_refl _) _)), ⟨fun t ht => HL.out t (by rw [hC]; simp [ht]), by omega, by simp; omega⟩⟩
      · show _ = _
        unfold piecesP
        rw [Hr.out]; rfl
      · intro p hp
        simp only [List.mem_singleton] at hp
        subst hp
        exact NdFree.new Hnd2.out (Nat.le_refl _) (by simp) (fun k _ hk => Below.heap_alloc _ _ k hk) rfl (.inr (Nat.le_refl _))
    case round =>
      obtain ⟨v, acc, l, g', hv, hacc, heq, hnd, hown, hrd, hbut, hbd⟩ := hrel
      subst hv
      clear Hnd2 HR2 Hb2 Hr
      cases gk with
      | zero => exact absurd hacc.out.2 (by omega)
      | succ k =>
        by_cases hsp : startsPiece (kindOf l) = true
        · have haw := atPiece_walk hrd.out
          rw [hsp] at haw
          have hpw2 := piece_walk hrd.out hbd.out.1 enc HT.out (fun w' L' g'' hl hb => HE.out w' L' g'' (by have := hbd.out.2; omega) hb)
          have hbutN : But R W1 wr := hbut.out
          go_wp2_with fail
          refine haw.mono ?_
          clear haw
          rintro e wx ⟨rfl, rfl⟩
          go_wp2_with fail
          cases hr : pieceP fin enc l g' with
          | bad kk =>
            rw [hr] at hpw2
            refine hpw2.mono ?_
            rintro e w4 ⟨rfl, hb4⟩
            refine ⟨rfl, ?_⟩
            rw [HP.out]
            have hc : concatP fin enc L g = .bad kk := by
              unfold concatP
              rw [heq.out]
              unfold moreP
              rw [if_pos hsp, hr]; rfl
            rw [hc]
            exact ⟨rfl, (HB1.out.trans hbutN).trans hb4⟩
          | ok x l2 g2 =>
            rw [hr] at hpw2
            have Hr := Lib.hid hr
            have Hsp := Lib.hid hsp
            have HbN := Lib.hid hbutN
            refine hpw2.mono ?_
            clear hpw2 hr hsp hbutN
            rintro e w4 ⟨cs, rfl, hnd4, hR4, hb4⟩
            obtain ⟨kq, sq, loq, hiq, nq, aq, lenq, capq, rfl⟩ := hnd4.cells
            have hownN : w4.ownsRow W1.heap.size 39 9 v acc.length (acc.flatMap (·.2)) := owns_but hown.out hb4 (by have := Hlt.out; rw [Hs1.out]; omega)
            have Hnd4 := Lib.hid hnd4
            have HR4 := Lib.hid hR4
            have Hb4 := Lib.hid hb4
            have HownN := Lib.hid hownN
            clear hnd4 hR4 hb4 hownN
            go_wp2_with (first
              | (refine wpList_append_fresh rfl _ _ rfl W1.heap.size v acc.length _ rfl (HownN.out.alloc _) w4.heap.size [.int .i64 kq, .int .u64 (word sq 0), .int .u64 (word sq 1), .int .u64 (word sq 2), .int .u64 (word sq 3), .int .i64 loq, .int .i64 hiq, .int .i64 nq, .slice aq lenq capq] rfl (node9_in (node_in_alloc w4 _) rfl) (at_cell_one Hnd4.out.at) (by have := hbd.out.2.2; have := HBD.out; omega) (List.length_pos_iff.mpr hacc.out.1) (by have h1 := HbN.out.size; have h2 := Hb4.out.size; simp; omega) ?_
                 intro v' w5 hown5 hgr5 hfr5
                 have Hfr5 := Lib.hid hfr5
                 have Hown5 := Lib.hid hown5
                 have Hgr5 := Lib.hid hgr5
                 clear hown5 hgr5 hfr5)
              | fail)
            go_roundg k
            case measure => omega
            case rel =>
              have htk := piece_takes (fin := fin) HT.out l g' x l2 g2 Hr.out
              obtain ⟨⟨C, hCn, _, hC⟩, _⟩ := htk
              have hCl := List.length_pos_iff.mpr hCn
              have hlen : l.length = C.length + l2.length := by rw [hC, List.length_append]
              have hk := hacc.out.2
              have hptl : l.length ≤ l.length := Nat.le_refl _
              have hb3 := hbd.out
              have hpre : But R wx (w4.alloc (.cells ([.int .i64 kq, .int .u64 (word sq 0), .int .u64 (word sq 1), .int .u64 (word sq 2), .int .u64 (word sq 3), .int .i64 loq, .int .i64 hiq, .int .i64 nq, .slice aq lenq capq] : List Value).toArray 39)) := Hb4.out.trans (But.of_below ((Below.refl _ _).alloc (Nat.le_refl _) _))
              have hB1 : W1.heap.size ≤ w4.heap.size := by have h1 := HbN.out.size; have h2 := Hb4.out.size; omega
              have hown4 := HownN.out.alloc (.cells ([.int .i64 kq, .int .u64 (word sq 0), .int .u64 (word sq 1), .int .u64 (word sq 2), .int .u64 (word sq 3), .int .i64 loq, .int .i64 hiq, .int .i64 nq, .slice aq lenq capq] : List Value).toArray 39)
              have hall : But R W1 w5 := but_grown (HbN.out.trans hpre) hown4 Hgr5.out (Nat.le_refl _)
              have hRB : R < W1.heap.size := by have := Hlt.out; rw [Hs1.out]; omega
              have hg0 : ∃ g0, v.ownBlock = some g0 ∧ g0 < wx.heap.size := by
                obtain ⟨q0, hq0⟩ := List.exists_mem_of_ne_nil _ hacc.out.1
                obtain ⟨g0, h0, _⟩ := hnd.out q0 hq0
                exact ⟨g0, h0, (hown.out.lt g0 h0).2⟩
              obtain ⟨g0, hg0, hg0l⟩ := hg0
              have hsz5 : w4.heap.size ≤ w5.heap.size := by have := Hgr5.out.size; simp at this; omega
              have hkeep5 : ∀ k, k < w4.heap.size → v.ownBlock ≠ some k → w5.heap[k]? = w4.heap[k]? := fun k hk hne => (Hgr5.out.block k (by simp; omega) (fun e => hne e.symm)).trans (Below.heap_alloc _ _ k hk)
              have hfr4 : v'.ownBlock = v.ownBlock ∨ ∃ g', v'.ownBlock = some g' ∧ w4.heap.size ≤ g' := by
                rcases Hfr5.out with h | ⟨g', h1, h2⟩
                · exact .inl h
                · exact .inr ⟨g', h1, by simp at h2; omega⟩
              have hRk : R < w4.heap.size := by omega
              refine ⟨_, acc ++ [(x, [.int .i64 kq, .int .u64 (word sq 0), .int .u64 (word sq 1), .int .u64 (word sq 2), .int .u64 (word sq 3), .int .i64 loq, .int .i64 hiq, .int .i64 nq, .slice aq lenq capq])], l2, g2, rfl, ⟨by simp, by omega⟩, ?_, ?_, ?_, ?_, hall, ⟨fun t ht => hb3.1 t (by rw [hC]; exact List.mem_append_right _ ht), by omega, by simp; omega⟩⟩
              · show _ = _
                rw [heq.out]
                conv => lhs; unfold moreP
                rw [if_pos Hsp.out, Hr.out]
                show PR.map _ (PR.map _ (moreP fin enc k l2 g2)) = _
                cases moreP fin enc k l2 g2 with
                | bad z => rfl
                | ok y l3 g3 => simp [PR.map]
              · intro p hp
                rcases List.mem_append.1 hp with hp | hp
                · have h4 : NdFree W1.heap.size w4 v p.1 p.2 := (hnd.out p hp).step Hb4.out.size (fun k h1 h2 _ => Hb4.out.block k h2 (by omega)) (.inl rfl)
                  exact h4.step hsz5 (fun k _ h2 h3 => hkeep5 k h2 h3) hfr4
                · simp only [List.mem_singleton] at hp
                  subst hp
                  have hvv : ∃ g', v'.ownBlock = some g' ∧ (g' < wx.heap.size ∨ w4.heap.size ≤ g') := by
                    rcases hfr4 with h | ⟨g', h1, h2⟩
                    · exact ⟨g0, by rw [h, hg0], .inl hg0l⟩
                    · exact ⟨g', h1, .inr h2⟩
                  obtain ⟨g', h1, h2⟩ := hvv
                  exact NdFree.new Hnd4.out HbN.out.size hsz5 (fun k h3 h4 => hkeep5 k h4 (fun e => by rw [hg0] at e; injection e with e; omega)) h1 h2
              · show World.ownsRow _ _ _ _ _ _ _
                rw [List.length_append, List.flatMap_append]
                simpa using Hown5.out
              · obtain ⟨a5, cap5, r1, r2, r3, r4⟩ := HR4.out.alloc (.cells ([.int .i64 kq, .int .u64 (word sq 0), .int .u64 (word sq 1), .int .u64 (word sq 2), .int .u64 (word sq 3), .int .i64 loq, .int .i64 hiq, .int .i64 nq, .slice aq lenq capq] : List Value).toArray 39)
                have hblk : ∀ k, k < W1.heap.size → w5.heap[k]? = (w4.alloc (.cells ([.int .i64 kq, .int .u64 (word sq 0), .int .u64 (word sq 1), .int .u64 (word sq 2), .int .u64 (word sq 3), .int .i64 loq, .int .i64 hiq, .int .i64 nq, .slice aq lenq capq] : List Value).toArray 39)).heap[k]? := fun k hk => Hgr5.out.block k (by simp; omega) (fun e => by have := (HownN.out.lt k e.symm).1; omega)
                refine ⟨a5, cap5, (hblk R hRB).trans r1, r2, r3, ?_⟩
                rcases r4 with r4 | ⟨b5, off5, e1, e2, e3⟩
                · exact .inl r4
                · exact .inr ⟨b5, off5, e1, e2, fun j hj q u hq => by rw [World.cell?_of_block (hblk b5 (by omega))]; exact e3 j hj q u hq⟩
        · have hno := atPiece_walk hrd.out
          rw [show startsPiece (kindOf l) = false from by simpa using hsp] at hno
          have hrow := row_owns acc (fun p hp => (hnd.out p hp).free) rfl (List.length_pos_iff.mpr hacc.out.1) hown.out
          have hve : ∃ gb cap len, v = .slice (some ⟨gb, 0, none⟩) len cap := by
            obtain ⟨gb, cap, e, _⟩ := hrow
            exact ⟨gb, cap, _, e⟩
          obtain ⟨gb, cap, len, rfl⟩ := hve
          have hnw := node_walk hrow 2 (by rfl) hbut.out.size
          have hc : concatP fin enc L g = .ok (oneOf 2 (acc.map (·.1))) l g' := by
            unfold concatP
            rw [heq.out]
            unfold moreP
            rw [if_neg hsp]
            simp [PR.map]
          have Hc := Lib.hid hc
          have Hno := Lib.hid hno
          clear hrow hc hsp hno heq hnd hown hacc hbd
          go_wp2_with fail
          refine (Hno.out).mono ?_
          clear Hno
          rintro e wx ⟨rfl, rfl⟩
          go_wp2_with fail
          refine hnw.mono ?_
          clear hnw
          rintro e w4 ⟨cs, rfl, hnd4, hb4⟩
          obtain ⟨kq, sq, loq, hiq, nq, aq, lenq, capq, rfl⟩ := hnd4.cells
          have HZ4 : Hid (NodeIn w4 w.heap.size zero9) := (hb4.block w.heap.size (lt_of_block (box_but hbut.out HZ1.out (by have := Hlt.out; omega)))).trans (box_but hbut.out HZ1.out (by have := Hlt.out; omega))
          have Hnd4 := Lib.hid hnd4
          have Hb4 := Lib.hid hb4
          clear hnd4 hb4
          go_wp2_with (first
            | (refine wpList_store_node rfl _ _ rfl w.heap.size zero9 #[.int .i64 kq, .int .u64 (word sq 0), .int .u64 (word sq 1), .int .u64 (word sq 2), .int .u64 (word sq 3), .int .i64 loq, .int .i64 hiq, .int .i64 nq, .slice aq lenq capq] rfl rfl HZ4.out rfl rfl (by simp [Value.oneCell']) ?_; intro w5 hn5 ho5)
            | fail)
          have hb5 : But R w w5 := But.only_new (But.trans (But.trans HB1.out hbut.out) (But.of_below Hb4.out)) ho5 (Nat.le_refl _)
          refine bodyPost_ret (results_node rfl _ _ w.heap.size _ rfl hn5 rfl) rfl ?_
          rw [HP.out, Hc.out]
          exact ⟨_, rfl, Hnd4.out.only ho5 (by rw [Hs1.out]; omega) (by rw [Hs1.out]; omega), (hrd.out.kept Hb4.out).only ho5 Hlt.out, hb5⟩
/-! The reader reads an alternative. -/
/-- an alternative, by what stands in brackets -/
def rowP (fin : Int) (enc : List TK → Nat → PR Nd) (L : List TK) (g : Nat) : PR Nd := (rowsP fin enc L g).map (oneOf 3)
set_option maxHeartbeats 8000000 in
theorem alt_walk {w : World} {R : Nat} {L : List TK} {fin : Int} {g : Nat} (h : RdAt w R L fin g) (hL : Bounded L) (enc : List TK → Nat → PR Nd) (hT : TakesE enc)
    (hE : ∀ (w : World) (L' : List TK) (g : Nat), L'.length < L.length → Bounded L' → RdAt w R L' fin g → Calls Tryz.prog 145 #[.pointer (some ⟨R, 0, none⟩)] w (RowPost R w fin (enc L' g))) :
    Calls Tryz.prog 84 #[.pointer (some ⟨R, 0, none⟩)] w (NodePost R w fin (rowP fin enc L g)) := by
  have Hlt := Lib.hid (rd_lt h)
  have HBD := Lib.hid (rd_bound h)
  obtain ⟨W1, hW1⟩ : ∃ W1, W1 = w.alloc (.cells zero9 39) := ⟨_, rfl⟩
  have HB1 : Hid (But R w W1) := by rw [hW1]; exact But.of_below ((Below.refl _ _).alloc (Nat.le_refl _) _)
  have Hs1 : Hid (W1.heap.size = w.heap.size + 1) := by rw [hW1]; show _ = _; simp
  have HZ1 : Hid (NodeIn W1 w.heap.size zero9) := by rw [hW1]; exact World.alloc_heap_new w _
  have hR1 : RdAt W1 R L fin g := by rw [hW1]; exact h.alloc _
  have hpw := concat_walk hR1 hL enc hT hE
  obtain ⟨P, hP⟩ : ∃ P, P = NodePost R w fin (rowP fin enc L g) := ⟨_, rfl⟩
  rw [← hP]
  have HP := Lib.hid hP
  have HL := Lib.hid hL
  have HE := Lib.hid hE
  have HT := Lib.hid hT
  have HW1 := Lib.hid hW1
  clear hE h hL hT hP hR1 hW1
  go_enter Tryz.func84, Tryz.ntmps84
  go_wp2_with fail
  rw [← HW1.out]
  cases hr : concatP fin enc L g with
  | bad k =>
    rw [hr] at hpw
    refine hpw.mono ?_
    rintro e w2 ⟨rfl, hb2⟩
    refine ⟨rfl, ?_⟩
    rw [HP.out]
    have hc : rowP fin enc L g = .bad k := by
      unfold rowP rowsP
      rw [hr]; rfl
    rw [hc]
    exact ⟨rfl, HB1.out.trans hb2⟩
  | ok x0 l0 g0 =>
    rw [hr] at hpw
    have Hr := Lib.hid hr
    refine hpw.mono ?_
    clear hpw hr
    rintro e w2 ⟨cs, rfl, hnd2, hR2, hb2⟩
    obtain ⟨kq, sq, loq, hiq, nq, aq, lenq, capq, rfl⟩ := hnd2.cells
    have Hb2 := Lib.hid hb2
    have Hnd2 := Lib.hid hnd2
    have HR2 := Lib.hid hR2
    clear hb2 hnd2 hR2
    go_wp2_with fail
    go_loopg [3] (l0.length + 1) (fun k v wr => ∃ (v0 : Value) (acc : List (Nd × List Value)) (l : List TK) (g' : Nat), v0 = v ∧ Hid (acc ≠ [] ∧ l.length < k) ∧ Hid (rowsP fin enc L g = (moreRows fin enc k l g').map (acc.map (·.1) ++ ·)) ∧ Hid (∀ p ∈ acc, NdFree W1.heap.size wr v p.1 p.2) ∧
      Hid (wr.ownsRow W1.heap.size 39 9 v acc.length (acc.flatMap (·.2))) ∧ Hid (RdAt wr R l fin g') ∧ Hid (But R W1 wr) ∧ Hid (Bounded l ∧ l.length ≤ L.length ∧ acc.length + l.length ≤ L.length))
    case atStart =>
      have htk := concat_takes HT.out L g x0 l0 g0 Hr.out
      obtain ⟨⟨C, hCn, _, hC⟩, _⟩ := htk
      have hCl := List.length_pos_iff.mpr hCn
      have hlen : L.length = C.length + l0.length := by rw [hC, List.length_append]
      refine ⟨_, [(x0, [.int .i64 kq, .int .u64 (word sq 0), .int .u64 (word sq 1), .int .u64 (word sq 2), .int .u64 (word sq 3), .int .i64 loq, .int .i64 hiq, .int .i64 nq, .slice aq lenq capq])], l0, g0, rfl, ⟨by simp, Nat.lt_succ_self _⟩, ?_, ?_, owns_lit (cs := [.int .i64 kq, .int .u64 (word sq 0), .int .u64 (word sq 1), .int .u64 (word sq 2), .int .u64 (word sq 3), .int .i64 loq, .int .i64 hiq, .int .i64 nq, .slice aq lenq capq]) rfl Hb2.out.size, HR2.out.alloc _, Hb2.out.trans (But.of_below ((Below.refl _ _).alloc (Nat.le_refl _) _)), ⟨fun t ht => HL.out t (by rw [hC]; simp [ht]), by omega, by simp; omega⟩⟩
      · show _ = _
        unfold rowsP
        rw [Hr.out]; rfl
      · intro p hp
        simp only [List.mem_singleton] at hp
        subst hp
        exact NdFree.new Hnd2.out (Nat.le_refl _) (by simp) (fun k _ hk => Below.heap_alloc _ _ k hk) rfl (.inr (Nat.le_refl _))
    case round =>
      obtain ⟨v, acc, l, g', hv, hacc, heq, hnd, hown, hrd, hbut, hbd⟩ := hrel
      subst hv
      clear Hnd2 HR2 Hb2 Hr
      cases gk with
      | zero => exact absurd hacc.out.2 (by omega)
      | succ k =>
        by_cases hsp : kindOf l = 5
        · obtain ⟨t, ht, htk⟩ := kind_cons hsp (by decide)
          have hrd1 := hrd.out
          rw [ht] at hrd1
          have haw := skip_yes hrd1 5 htk
          clear hrd1 htk
          have Ht := Lib.hid ht
          clear ht
          go_wp2_with fail
          refine haw.mono ?_
          clear haw
          rintro e wx ⟨rfl, hR3, ho3⟩
          have hpw2 := concat_walk hR3 (fun t ht => hbd.out.1 t (List.mem_of_mem_tail ht)) enc HT.out (fun w' L' g'' hl hb => HE.out w' L' g'' (by have := hbd.out.2; simp at hl; omega) hb)
          have hRB1 : R < W1.heap.size := by have := Hlt.out; rw [Hs1.out]; omega
          have HownX := Lib.hid (owns_but hown.out (But.of_only ho3) hRB1)
          have HndX : Hid (∀ p ∈ acc, NdFree W1.heap.size wx v p.1 p.2) := fun p hp => (hnd.out p hp).step (Nat.le_of_eq ho3.size.symm) (fun k h1 _ _ => ho3.block k (by omega)) (.inl rfl)
          have hbutN : But R W1 wx := hbut.out.trans (But.of_only ho3)
          clear hR3 ho3 hRB1
          go_wp2_with fail
          cases hr : concatP fin enc l.tail g' with
          | bad kk =>
            rw [hr] at hpw2
            refine hpw2.mono ?_
            rintro e w4 ⟨rfl, hb4⟩
            refine ⟨rfl, ?_⟩
            rw [HP.out]
            have hc : rowP fin enc L g = .bad kk := by
              unfold rowP
              rw [heq.out]
              unfold moreRows
              rw [if_pos hsp, hr]; rfl
            rw [hc]
            exact ⟨rfl, (HB1.out.trans hbutN).trans hb4⟩
          | ok x l2 g2 =>
            rw [hr] at hpw2
            have Hr := Lib.hid hr
            have Hsp := Lib.hid hsp
            have HbN := Lib.hid hbutN
            refine hpw2.mono ?_
            clear hpw2 hr hsp hbutN
            rintro e w4 ⟨cs, rfl, hnd4, hR4, hb4⟩
            obtain ⟨kq, sq, loq, hiq, nq, aq, lenq, capq, rfl⟩ := hnd4.cells
            have hownN : w4.ownsRow W1.heap.size 39 9 v acc.length (acc.flatMap (·.2)) := owns_but HownX.out hb4 (by have := Hlt.out; rw [Hs1.out]; omega)
            have Hnd4 := Lib.hid hnd4
            have HR4 := Lib.hid hR4
            have Hb4 := Lib.hid hb4
            have HownN := Lib.hid hownN
            clear hnd4 hR4 hb4 hownN
            go_wp2_with (first
              | (refine wpList_append_fresh rfl _ _ rfl W1.heap.size v acc.length _ rfl (HownN.out.alloc _) w4.heap.size [.int .i64 kq, .int .u64 (word sq 0), .int .u64 (word sq 1), .int .u64 (word sq 2), .int .u64 (word sq 3), .int .i64 loq, .int .i64 hiq, .int .i64 nq, .slice aq lenq capq] rfl (node9_in (node_in_alloc w4 _) rfl) (at_cell_one Hnd4.out.at) (by have := hbd.out.2.2; have := HBD.out; omega) (List.length_pos_iff.mpr hacc.out.1) (by have h1 := HbN.out.size; have h2 := Hb4.out.size; simp; omega) ?_
                 intro v' w5 hown5 hgr5 hfr5
                 have Hfr5 := Lib.hid hfr5
                 have Hown5 := Lib.hid hown5
                 have Hgr5 := Lib.hid hgr5
                 clear hown5 hgr5 hfr5)
              | fail)
            go_roundg k
            case measure => omega
            case rel =>
              have htk := concat_takes (fin := fin) HT.out l.tail g' x l2 g2 Hr.out
              obtain ⟨⟨C, hCn, _, hC⟩, _⟩ := htk
              have hCl := List.length_pos_iff.mpr hCn
              have hlen : l.tail.length = C.length + l2.length := by rw [hC, List.length_append]
              have hk := hacc.out.2
              have hptl : l.tail.length ≤ l.length := by simp
              have hb3 := hbd.out
              have hpre : But R wx (w4.alloc (.cells ([.int .i64 kq, .int .u64 (word sq 0), .int .u64 (word sq 1), .int .u64 (word sq 2), .int .u64 (word sq 3), .int .i64 loq, .int .i64 hiq, .int .i64 nq, .slice aq lenq capq] : List Value).toArray 39)) := Hb4.out.trans (But.of_below ((Below.refl _ _).alloc (Nat.le_refl _) _))
              have hB1 : W1.heap.size ≤ w4.heap.size := by have h1 := HbN.out.size; have h2 := Hb4.out.size; omega
              have hown4 := HownN.out.alloc (.cells ([.int .i64 kq, .int .u64 (word sq 0), .int .u64 (word sq 1), .int .u64 (word sq 2), .int .u64 (word sq 3), .int .i64 loq, .int .i64 hiq, .int .i64 nq, .slice aq lenq capq] : List Value).toArray 39)
              have hall : But R W1 w5 := but_grown (HbN.out.trans hpre) hown4 Hgr5.out (Nat.le_refl _)
              have hRB : R < W1.heap.size := by have := Hlt.out; rw [Hs1.out]; omega
              have hg0 : ∃ g0, v.ownBlock = some g0 ∧ g0 < wx.heap.size := by
                obtain ⟨q0, hq0⟩ := List.exists_mem_of_ne_nil _ hacc.out.1
                obtain ⟨g0, h0, _⟩ := HndX.out q0 hq0
                exact ⟨g0, h0, (HownX.out.lt g0 h0).2⟩
              obtain ⟨g0, hg0, hg0l⟩ := hg0
              have hsz5 : w4.heap.size ≤ w5.heap.size := by have := Hgr5.out.size; simp at this; omega
              have hkeep5 : ∀ k, k < w4.heap.size → v.ownBlock ≠ some k → w5.heap[k]? = w4.heap[k]? := fun k hk hne => (Hgr5.out.block k (by simp; omega) (fun e => hne e.symm)).trans (Below.heap_alloc _ _ k hk)
              have hfr4 : v'.ownBlock = v.ownBlock ∨ ∃ g', v'.ownBlock = some g' ∧ w4.heap.size ≤ g' := by
                rcases Hfr5.out with h | ⟨g', h1, h2⟩
                · exact .inl h
                · exact .inr ⟨g', h1, by simp at h2; omega⟩
              have hRk : R < w4.heap.size := by omega
              refine ⟨_, acc ++ [(x, [.int .i64 kq, .int .u64 (word sq 0), .int .u64 (word sq 1), .int .u64 (word sq 2), .int .u64 (word sq 3), .int .i64 loq, .int .i64 hiq, .int .i64 nq, .slice aq lenq capq])], l2, g2, rfl, ⟨by simp, by omega⟩, ?_, ?_, ?_, ?_, hall, ⟨fun t ht => hb3.1 t (List.mem_of_mem_tail (by rw [hC]; exact List.mem_append_right _ ht)), by omega, by simp; omega⟩⟩
              · show _ = _
                rw [heq.out]
                conv => lhs; unfold moreRows
                rw [if_pos Hsp.out, Hr.out]
                show PR.map _ (PR.map _ (moreRows fin enc k l2 g2)) = _
                cases moreRows fin enc k l2 g2 with
                | bad z => rfl
                | ok y l3 g3 => simp [PR.map]
              · intro p hp
                rcases List.mem_append.1 hp with hp | hp
                · have h4 : NdFree W1.heap.size w4 v p.1 p.2 := (HndX.out p hp).step Hb4.out.size (fun k h1 h2 _ => Hb4.out.block k h2 (by omega)) (.inl rfl)
                  exact h4.step hsz5 (fun k _ h2 h3 => hkeep5 k h2 h3) hfr4
                · simp only [List.mem_singleton] at hp
                  subst hp
                  have hvv : ∃ g', v'.ownBlock = some g' ∧ (g' < wx.heap.size ∨ w4.heap.size ≤ g') := by
                    rcases hfr4 with h | ⟨g', h1, h2⟩
                    · exact ⟨g0, by rw [h, hg0], .inl hg0l⟩
                    · exact ⟨g', h1, .inr h2⟩
                  obtain ⟨g', h1, h2⟩ := hvv
                  exact NdFree.new Hnd4.out HbN.out.size hsz5 (fun k h3 h4 => hkeep5 k h4 (fun e => by rw [hg0] at e; injection e with e; omega)) h1 h2
              · show World.ownsRow _ _ _ _ _ _ _
                rw [List.length_append, List.flatMap_append]
                simpa using Hown5.out
              · obtain ⟨a5, cap5, r1, r2, r3, r4⟩ := HR4.out.alloc (.cells ([.int .i64 kq, .int .u64 (word sq 0), .int .u64 (word sq 1), .int .u64 (word sq 2), .int .u64 (word sq 3), .int .i64 loq, .int .i64 hiq, .int .i64 nq, .slice aq lenq capq] : List Value).toArray 39)
                have hblk : ∀ k, k < W1.heap.size → w5.heap[k]? = (w4.alloc (.cells ([.int .i64 kq, .int .u64 (word sq 0), .int .u64 (word sq 1), .int .u64 (word sq 2), .int .u64 (word sq 3), .int .i64 loq, .int .i64 hiq, .int .i64 nq, .slice aq lenq capq] : List Value).toArray 39)).heap[k]? := fun k hk => Hgr5.out.block k (by simp; omega) (fun e => by have := (HownN.out.lt k e.symm).1; omega)
                refine ⟨a5, cap5, (hblk R hRB).trans r1, r2, r3, ?_⟩
                rcases r4 with r4 | ⟨b5, off5, e1, e2, e3⟩
                · exact .inl r4
                · exact .inr ⟨b5, off5, e1, e2, fun j hj q u hq => by rw [World.cell?_of_block (hblk b5 (by omega))]; exact e3 j hj q u hq⟩
        · have hno := skip_no hrd.out 5 hsp
          have hrow := row_owns acc (fun p hp => (hnd.out p hp).free) rfl (List.length_pos_iff.mpr hacc.out.1) hown.out
          have hve : ∃ gb cap len, v = .slice (some ⟨gb, 0, none⟩) len cap := by
            obtain ⟨gb, cap, e, _⟩ := hrow
            exact ⟨gb, cap, _, e⟩
          obtain ⟨gb, cap, len, rfl⟩ := hve
          have hnw := node_walk hrow 3 (by rfl) hbut.out.size
          have hc : rowP fin enc L g = .ok (oneOf 3 (acc.map (·.1))) l g' := by
            unfold rowP
            rw [heq.out]
            unfold moreRows
            rw [if_neg hsp]
            simp [PR.map]
          have Hc := Lib.hid hc
          have Hno := Lib.hid hno
          clear hrow hc hsp hno heq hnd hown hacc hbd
          go_wp2_with fail
          refine (Hno.out).mono ?_
          clear Hno
          rintro e wx ⟨rfl, rfl⟩
          go_wp2_with fail
          refine hnw.mono ?_
          clear hnw
          rintro e w4 ⟨cs, rfl, hnd4, hb4⟩
          obtain ⟨kq, sq, loq, hiq, nq, aq, lenq, capq, rfl⟩ := hnd4.cells
          have HZ4 : Hid (NodeIn w4 w.heap.size zero9) := (hb4.block w.heap.size (lt_of_block (box_but hbut.out HZ1.out (by have := Hlt.out; omega)))).trans (box_but hbut.out HZ1.out (by have := Hlt.out; omega))
          have Hnd4 := Lib.hid hnd4
          have Hb4 := Lib.hid hb4
          clear hnd4 hb4
          go_wp2_with (first
            | (refine wpList_store_node rfl _ _ rfl w.heap.size zero9 #[.int .i64 kq, .int .u64 (word sq 0), .int .u64 (word sq 1), .int .u64 (word sq 2), .int .u64 (word sq 3), .int .i64 loq, .int .i64 hiq, .int .i64 nq, .slice aq lenq capq] rfl rfl HZ4.out rfl rfl (by simp [Value.oneCell']) ?_; intro w5 hn5 ho5)
            | fail)
          have hb5 : But R w w5 := But.only_new (But.trans (But.trans HB1.out hbut.out) (But.of_below Hb4.out)) ho5 (Nat.le_refl _)
          refine bodyPost_ret (results_node rfl _ _ w.heap.size _ rfl hn5 rfl) rfl ?_
          rw [HP.out, Hc.out]
          exact ⟨_, rfl, Hnd4.out.only ho5 (by rw [Hs1.out]; omega) (by rw [Hs1.out]; omega), (hrd.out.kept Hb4.out).only ho5 Hlt.out, hb5⟩
/-! The reader, whole: whatever the tokens are; the '$' at their end. -/
theorem alternative_all (fin : Int) (R : Nat) : ∀ (n : Nat) (w : World) (L : List TK) (g : Nat), L.length < n + 1 → Bounded L → RdAt w R L fin g →
    Calls Tryz.prog 84 #[.pointer (some ⟨R, 0, none⟩)] w (NodePost R w fin (altF fin n L g))
  | 0, w, L, g, hl, hb, h => alt_walk h hb (encF fin 0) (enc_takes fin 0) (fun _ _ _ hl' _ _ => by omega)
  | n + 1, w, L, g, hl, hb, h => alt_walk h hb (encF fin (n + 1)) (enc_takes fin (n + 1)) (fun w' L' g' hl' hb' h' =>
      enclosed_walk h' (fun L g => (rowsP fin (encF fin n) L g).map (oneOf 3)) (alternative_all fin R n w' L' g' (by omega) hb' h'))
/-- the reader's box without its last token -/
theorem rd_cut {w : World} {R : Nat} {L : List TK} {n : Int} {g : Nat} (h : RdAt w R L n g) (t : TK) (ht : L.getLast? = some t) :
    ∃ b off cap, w.cell? ⟨R, 0, none⟩ = some (.slice (some ⟨b, off, none⟩) L.length cap) ∧ (∀ o, w.frozen? ⟨R, o, none⟩ = false) ∧ w.cell? ⟨R, 1, none⟩ = some (.int .i64 n) ∧ L.length ≤ cap ∧ L.length ≤ 1024 ∧ b < R ∧ 0 < L.length ∧ Tok8 w b (off + (L.length - 1) * 8) t.1 (t.2 : Nat) ∧
      RdAt ((w.setCell ⟨R, 1, none⟩ (.int .i64 (t.2 : Nat))).setCell ⟨R, 0, none⟩ (.slice (some ⟨b, off, none⟩) (L.length - 1) cap)) R L.dropLast (t.2 : Nat) g ∧
      Only R w ((w.setCell ⟨R, 1, none⟩ (.int .i64 (t.2 : Nat))).setCell ⟨R, 0, none⟩ (.slice (some ⟨b, off, none⟩) (L.length - 1) cap)) := by
  have hlt := rd_lt h
  obtain ⟨a, cap, h1, h2, hm, h3⟩ := h
  obtain ⟨c0, c1, c2, cf⟩ := rd_cells h1
  have hne : L ≠ [] := by rintro rfl; cases ht
  have hpos := List.length_pos_iff.mpr hne
  rcases h3 with h3 | ⟨b, off, rfl, e2, e3⟩
  · exact absurd h3 hne
  · have ho : Only R w ((w.setCell ⟨R, 1, none⟩ (.int .i64 (t.2 : Nat))).setCell ⟨R, 0, none⟩ (.slice (some ⟨b, off, none⟩) (L.length - 1) cap)) :=
      ⟨rfl, rfl, rfl, by simp, fun k hk => (heap_setCell_other _ _ k _ hk).trans (heap_setCell_other w _ k _ hk)⟩
    have hlast : L[L.length - 1]'(by omega) = t := by
      rw [List.getLast?_eq_getElem?, List.getElem?_eq_getElem (by omega)] at ht
      injection ht
    refine ⟨b, off, cap, c0, cf, c1, h2, by omega, by omega, hpos, by have := e3 (L.length - 1) (by omega); rw [hlast] at this; exact this, ⟨some ⟨b, off, none⟩, cap, ?_, by rw [List.length_dropLast]; omega, by rw [List.length_dropLast]; omega, .inr ⟨b, off, rfl, e2, fun j hj => ?_⟩⟩, ho⟩
    · have hx := heap_setCell_same w R 1 _ _ (.int .i64 (t.2 : Nat)) h1
      rw [heap_setCell_same _ R 0 _ _ _ hx, List.length_dropLast]
      rfl
    · rw [List.length_dropLast] at hj
      intro q v hq
      rw [ho.cell (a := ⟨b, off + j * 8 + q, none⟩) (by show b ≠ R; omega)]
      have := e3 j (by omega) q v
      rw [List.getElem_dropLast] at hq
      exact this hq
set_option maxHeartbeats 2000000 in
theorem cutEnd_walk {w : World} {R : Nat} {L : List TK} {n : Int} {g : Nat} (h : RdAt w R L n g) :
    Calls Tryz.prog 83 #[.pointer (some ⟨R, 0, none⟩)] w fun e w' => e = .returned (.bool (endsWith8 L)) ∧ RdAt w' R (trimEnd L) (finOf n L) g ∧ Only R w w' := by
  cases hl : L.getLast? with
  | none =>
    obtain rfl := List.getLast?_eq_none_iff.1 hl
    obtain ⟨a, cap, c0, c1, c2, cf, hc, hm, ht⟩ := rd_open h
    have hd : ((0 : Nat) : Int) - 1 = -1 := by rfl
    have Hh := Lib.hid h
    clear h ht hl cf hm
    simp only [List.length_nil] at c0 hc
    go_enter Tryz.func83, Tryz.ntmps83
    go_wp2_with fail
    go_ret
    exact ⟨rfl, Hh.out, ⟨rfl, rfl, rfl, rfl, fun _ _ => rfl⟩⟩
  | some t =>
    obtain ⟨t, p⟩ := t
    obtain ⟨b, off, cap, c0, cf, c1, hcap, hm, hbR, hpos, h8, hrd, ho⟩ := rd_cut h (t, p) hl
    obtain ⟨k0, k7⟩ := tok_cells h8
    have Hh := Lib.hid h
    have hi0 : (0 : Int) ≤ (L.length : Int) - 1 := by omega
    have hi1 : (L.length : Int) - 1 < (L.length : Int) := by omega
    have hi2 : ((L.length : Int) - 1).toNat = L.length - 1 := by omega
    have hi3 : (L.length : Int) - 1 ≤ (cap : Int) := by omega
    have hneg : decide ((L.length : Int) - 1 < 0) = false := decide_eq_false (by omega)
    by_cases h8k : t.kind = 8
    · have e1 : endsWith8 L = true := by unfold endsWith8; rw [hl]; simp [h8k]
      have e2 : finOf n L = (p : Nat) := by unfold finOf; rw [hl]; simp [h8k]
      have e3 : trimEnd L = L.dropLast := by unfold trimEnd; rw [e1]; rfl
      rw [e1, e2, e3]
      rw [h8k] at k0
      have k7s : w.cell? ⟨b, off + (L.length - 1) * 8 + 7, none⟩ = some (.int .i64 (p : Nat)) := k7
      have c0' : (w.setCell ⟨R, 1, none⟩ (.int .i64 (p : Nat))).cell? ⟨R, 0, none⟩ = some (.slice (some ⟨b, off, none⟩) L.length cap) := by
        rw [World.cell?_setCell_other _ _ _ _ (by simp)]; exact c0
      have hf0 := cf 0
      have hf1 := cf 1
      have Hrd := Lib.hid hrd
      have Ho := Lib.hid ho
      generalize hn : L.length = len at *
      have Hn := Lib.hid hn
      clear hn h hl h8 hrd ho cf e1 e2 e3 k7 h8k
      go_enter Tryz.func83, Tryz.ntmps83
      go_wp2_with fail
      go_ret
      obtain rfl := Hn.out.symm
      exact ⟨rfl, Hrd.out, Ho.out⟩
    · have e1 : endsWith8 L = false := by unfold endsWith8; rw [hl]; simp [h8k]
      have e2 : finOf n L = n := by unfold finOf; rw [hl]; simp [h8k]
      have e3 : trimEnd L = L := by unfold trimEnd; rw [e1]; rfl
      rw [e1, e2, e3]
      have hk1 : decide (((t.kind : Nat) : Int) = 8) = false := decide_eq_false (by omega)
      have hk2 : (((t.kind : Nat) : Int) == 8) = false := by simp; omega
      have hk3 : ¬ ((t.kind : Nat) : Int) = 8 := by omega
      dsimp only at k0
      generalize hn : L.length = len at *
      generalize t.kind = tk at *
      have Hn := Lib.hid hn
      clear hn h hl h8 hrd ho cf e1 e2 e3 k7
      go_enter Tryz.func83, Tryz.ntmps83
      go_wp2_with fail
      go_ret
      exact ⟨rfl, Hh.out, ⟨rfl, rfl, rfl, rfl, fun _ _ => rfl⟩⟩
/-! The tokens read: what the deferred function does with a token that cannot stand there. -/
abbrev zeroPat : Array Value := #[.bool false, .bool false, .int .i64 0, .int .u64 0, .int .u64 0, .int .u64 0, .int .u64 0, .int .i64 0, .int .i64 0, .int .i64 0, .slice none 0 0, .int .i64 0]
def PatIn (w : World) (b : Nat) (cs : Array Value) : Prop := w.heap[b]? = some (.cells cs 70)
def IntIn (w : World) (b : Nat) (v : Value) : Prop := w.heap[b]? = some (.cells #[v] 3)
def ErrIn (w : World) (b : Nat) (v : Value) : Prop := w.heap[b]? = some (.cells #[v] 34)
theorem infoPat2 : (Tryz.prog.info? 70).map (·.size) = some 12 := by kernel_rfl
theorem one_after {w : World} {b c : Nat} {v : Value} {T : TypeId} (h : w.heap[c]? = some (.cells #[v] T)) (cs : Array Value) (hne : c ≠ b) : (w.drew.setRow b cs).cell? ⟨c, 0, none⟩ = some v ∧ (w.drew.setRow b cs).frozen? ⟨c, 0, none⟩ = false := by
  have h' : (w.drew.setRow b cs).heap[c]? = some (.cells #[v] T) := (setRow_other w.drew b c cs hne).trans h
  exact ⟨by rw [cells_at h']; rfl, by simp [World.frozen?, h']⟩
theorem two_after {w : World} {b c : Nat} {v : Value} {T : TypeId} (h : w.heap[c + 1]? = some (.cells #[v] T)) (cs : Array Value) (u : Value) (hne : c + 1 ≠ b) : ((w.drew.setRow b cs).setCell ⟨c, 0, none⟩ u).cell? ⟨c + 1, 0, none⟩ = some v ∧ ((w.drew.setRow b cs).setCell ⟨c, 0, none⟩ u).frozen? ⟨c + 1, 0, none⟩ = false := by
  have h' : ((w.drew.setRow b cs).setCell ⟨c, 0, none⟩ u).heap[c + 1]? = some (.cells #[v] T) := (heap_setCell_other _ _ _ _ (by simp)).trans ((setRow_other w.drew b (c + 1) cs hne).trans h)
  exact ⟨by rw [cells_at h']; rfl, by simp [World.frozen?, h']⟩
theorem catch_end {w : World} {b0 : Nat} {cs : Array Value} {v1 v2 u1 u2 : Value} (h0 : PatIn w b0 cs) (h1 : IntIn w (b0 + 1) v1) (h2 : ErrIn w (b0 + 1 + 1) v2) :
    PatIn (((w.drew.setRow b0 zeroPat).setCell ⟨b0 + 1, 0, none⟩ u1).setCell ⟨b0 + 1 + 1, 0, none⟩ u2) b0 zeroPat ∧ IntIn (((w.drew.setRow b0 zeroPat).setCell ⟨b0 + 1, 0, none⟩ u1).setCell ⟨b0 + 1 + 1, 0, none⟩ u2) (b0 + 1) u1 ∧
      ErrIn (((w.drew.setRow b0 zeroPat).setCell ⟨b0 + 1, 0, none⟩ u1).setCell ⟨b0 + 1 + 1, 0, none⟩ u2) (b0 + 1 + 1) u2 ∧ Below b0 w (((w.drew.setRow b0 zeroPat).setCell ⟨b0 + 1, 0, none⟩ u1).setCell ⟨b0 + 1 + 1, 0, none⟩ u2) := by
  have e0 : PatIn (w.drew.setRow b0 zeroPat) b0 zeroPat := setRow_heap w.drew b0 _ _ _ _ h0
  have e1 : IntIn (w.drew.setRow b0 zeroPat) (b0 + 1) v1 := (setRow_other _ _ _ _ (by omega)).trans h1
  have e2 : ErrIn (w.drew.setRow b0 zeroPat) (b0 + 1 + 1) v2 := (setRow_other _ _ _ _ (by omega)).trans h2
  refine ⟨(heap_setCell_other _ _ _ _ (by simp; omega)).trans ((heap_setCell_other _ _ _ _ (by simp)).trans e0), (heap_setCell_other _ _ _ _ (by simp)).trans (one_setCell e1), one_setCell ((heap_setCell_other _ _ _ _ (by simp)).trans e2), ?_⟩
  exact (((only_row w.drew b0 zeroPat).below (Below.refl _ _).drew (Nat.le_refl _)).setCell (by simp) _).setCell (by simp; omega) _
set_option maxHeartbeats 2000000 in
theorem catch_bad {w : World} {b0 : Nat} {cs : Array Value} {v1 v2 : Value} (k : Int) (h0 : PatIn w b0 cs) (hc : cs.size = 12) (h1 : IntIn w (b0 + 1) v1) (h2 : ErrIn w (b0 + 1 + 1) v2) :
    CallsD Tryz.prog 81 #[.pointer (some ⟨b0, 0, none⟩), .pointer (some ⟨b0 + 1, 0, none⟩), .pointer (some ⟨b0 + 1 + 1, 0, none⟩)] (.panicking [{ v := .iface 138 (.int .i64 k), recovered := false }]) w fun e u' w' =>
      e = .returned (.tuple #[]) ∧ u' = .panicking [{ v := .iface 138 (.int .i64 k), recovered := true }] ∧ PatIn w' b0 zeroPat ∧ IntIn w' (b0 + 1) (.int .i64 k) ∧ ErrIn w' (b0 + 1 + 1) (.int .i64 2) ∧ Below b0 w w' := by
  refine callsD_of_wpS Tryz.func81 rfl fun c₀ cs' hu => ?_
  apply wpS_seq
  apply wpS_region
  simp [wpOpsS, go_sem, recoverD, hu, Tryz.ntmps81, Exit.thenS]
  apply wpS_seq
  apply wpS_region
  simp [wpOpsS, go_sem, recoverD, Exit.thenS]
  refine wpS_cond (t := true) (by simp [Act.eval, Array.replicate]) ?_
  simp only [if_true]
  refine wpS_of_wp ?_
  simp only [Array.replicate_succ, Array.replicate_zero, List.push_toArray, List.append_toArray, List.nil_append, List.cons_append, List.setIfInBounds_toArray, List.set_cons_zero, List.set_cons_succ]
  refine wp_region_free (.plain 0 (.plain 1 (.fork 2 (.sole 3 (.sole 4 (.sole 5 .done))) 3 (.sole 2 (.sole 4 (.sole 5 .done)))))) (by kernel_rfl) (by kernel_rfl) (fun c a d v w h => by cases d <;> exact h) ?_
  iterate 2
    refine' free_plain ?_ ?_ (fun K hK => ?_)
    rotate_left 1
    · simp only [List.getElem?_toArray, List.getElem?_cons_zero, List.getElem?_cons_succ]; exact rfl
    · exact rfl
    go_big_quiet_op
    refine hK _ ?_
    clear hK K
  refine free_fork ?_ ?_
  · refine' free_step ?_ ?_ (fun K hK => ?_)
    rotate_left 1
    · simp only [List.getElem?_toArray, List.getElem?_cons_zero, List.getElem?_cons_succ]; exact rfl
    · exact rfl
    unfold Oper.wp execOp
    go_simp
    refine hK _ _ ?_
    clear hK K
    try simp only [Act.put, List.setIfInBounds_toArray, List.set_cons_zero, List.set_cons_succ]
    refine' free_sole ?_ ?_ (fun K hK => ?_)
    rotate_left 1
    · simp only [List.getElem?_toArray, List.getElem?_cons_zero, List.getElem?_cons_succ]; exact rfl
    · exact rfl
    refine wp_store_row _ _ _ rfl b0 zeroPat rfl rfl _ cs (h0) infoPat2 (by rw [hc]; rfl) (by simp [Value.oneCell']) ?_
    refine hK _ _ ?_
    clear hK K
    try simp only [Act.put]
    refine' free_sole ?_ ?_ (fun K hK => ?_)
    rotate_left 1
    · simp only [List.getElem?_toArray, List.getElem?_cons_zero, List.getElem?_cons_succ]; exact rfl
    · exact rfl
    have hc1 := (one_after h1 (b := b0) zeroPat (by omega)).1
    have hf1 := (one_after h1 (b := b0) zeroPat (by omega)).2
    unfold Oper.wp execOp
    go_simp
    refine hK _ _ ?_
    clear hc1 hf1
    clear hK K
    try simp only [Act.put]
    refine' free_sole ?_ ?_ (fun K hK => ?_)
    rotate_left 1
    · simp only [List.getElem?_toArray, List.getElem?_cons_zero, List.getElem?_cons_succ]; exact rfl
    · exact rfl
    have hc1 := (two_after h2 (b := b0) zeroPat (.int .i64 k) (by omega)).1
    have hf1 := (two_after h2 (b := b0) zeroPat (.int .i64 k) (by omega)).2
    unfold Oper.wp execOp
    go_simp
    refine hK _ _ ?_
    clear hc1 hf1
    clear hK K
    try simp only [Act.put]
    refine free_done ?_
    show bodyPostS _ _ _ _ _ _ _ _ _
    refine ⟨rfl, _, rfl, _, results_none rfl _ _ _, rfl, rfl, ?_⟩
    exact catch_end h0 h1 h2
  · refine' free_step ?_ ?_ (fun K hK => ?_)
    rotate_left 1
    · simp only [List.getElem?_toArray, List.getElem?_cons_zero, List.getElem?_cons_succ]; exact rfl
    · exact rfl
    refine wp_store_row _ _ _ rfl b0 zeroPat rfl rfl _ cs (h0) infoPat2 (by rw [hc]; rfl) (by simp [Value.oneCell']) ?_
    refine hK _ _ ?_
    clear hK K
    try simp only [Act.put]
    refine' free_sole ?_ ?_ (fun K hK => ?_)
    rotate_left 1
    · simp only [List.getElem?_toArray, List.getElem?_cons_zero, List.getElem?_cons_succ]; exact rfl
    · exact rfl
    unfold Oper.wp execOp
    go_simp
    refine hK _ _ ?_
    clear hK K
    try simp only [Act.put, List.setIfInBounds_toArray, List.set_cons_zero, List.set_cons_succ]
    refine' free_sole ?_ ?_ (fun K hK => ?_)
    rotate_left 1
    · simp only [List.getElem?_toArray, List.getElem?_cons_zero, List.getElem?_cons_succ]; exact rfl
    · exact rfl
    have hc1 := (one_after h1 (b := b0) zeroPat (by omega)).1
    have hf1 := (one_after h1 (b := b0) zeroPat (by omega)).2
    unfold Oper.wp execOp
    go_simp
    refine hK _ _ ?_
    clear hc1 hf1
    clear hK K
    try simp only [Act.put]
    refine' free_sole ?_ ?_ (fun K hK => ?_)
    rotate_left 1
    · simp only [List.getElem?_toArray, List.getElem?_cons_zero, List.getElem?_cons_succ]; exact rfl
    · exact rfl
    have hc1 := (two_after h2 (b := b0) zeroPat (.int .i64 k) (by omega)).1
    have hf1 := (two_after h2 (b := b0) zeroPat (.int .i64 k) (by omega)).2
    unfold Oper.wp execOp
    go_simp
    refine hK _ _ ?_
    clear hc1 hf1
    clear hK K
    try simp only [Act.put]
    refine free_done ?_
    show bodyPostS _ _ _ _ _ _ _ _ _
    refine ⟨rfl, _, rfl, _, results_none rfl _ _ _, rfl, rfl, ?_⟩
    exact catch_end h0 h1 h2
/-! The tokens read, whole. -/
theorem catch_idle (b0 b1 b2 : Nat) (w : World) :
    CallsD Tryz.prog 81 #[.pointer (some ⟨b0, 0, none⟩), .pointer (some ⟨b1, 0, none⟩), .pointer (some ⟨b2, 0, none⟩)] .returning w fun e u' w' => e = .returned (.tuple #[]) ∧ u' = .returning ∧ w' = w := by
  refine callsD_of_wpS Tryz.func81 rfl fun c₀ cs' hu => ?_
  apply wpS_seq
  apply wpS_region
  simp [wpOpsS, go_sem, recoverD, hu, Tryz.ntmps81, Exit.thenS]
  apply wpS_seq
  apply wpS_region
  simp [wpOpsS, go_sem, Exit.thenS]
  refine wpS_cond (t := false) (by simp [Act.eval, Array.replicate]) ?_
  simp only [Bool.false_eq_true, if_false]
  refine wpS_of_wp (wp_skip ?_)
  refine ⟨rfl, _, ?_, _, results_none rfl _ _ _, rfl, rfl, rfl⟩
  cases c₀
  simp_all
theorem toks_reader {w : World} {v : Value} {T : List TK} (h : ToksAt w v T) (hT : T.length ≤ 1024) (n : Int) (o0 o1 o2 : Obj) :
    RdAt ((((w.alloc o0).alloc o1).alloc o2).alloc (.cells #[v, .int .i64 n, .int .i64 0] 140)) (w.heap.size + 1 + 1 + 1) T n 0 := by
  obtain ⟨a, cap, rfl, h⟩ := h
  have hb := World.alloc_heap_new (((w.alloc o0).alloc o1).alloc o2) (.cells #[.slice a T.length cap, .int .i64 n, .int .i64 0] 140)
  simp only [World.size_alloc] at hb
  have hB : Below w.heap.size w ((((w.alloc o0).alloc o1).alloc o2).alloc (.cells #[.slice a T.length cap, .int .i64 n, .int .i64 0] 140)) := (((two_below w o0 o1).alloc (by simp; omega) o2).alloc (by simp; omega) _)
  rcases h with rfl | ⟨g, rfl, h1, h2, h3⟩
  · exact ⟨a, cap, hb, Nat.zero_le _, by simp, .inl rfl⟩
  · exact ⟨_, cap, hb, h1, by omega, .inr ⟨g, 0, rfl, by omega, fun j hj => by rw [Nat.zero_add]; exact (h3 j hj).below hB h2⟩⟩
theorem storeVar_part (w : World) (g off : Nat) (t ty : TypeId) (old cells : Array Value) (hg : w.heap[g]? = some (.cells old t (0, 0))) (hi : (Tryz.prog.info? ty).map (·.size) = some cells.size) (ho : off + cells.size ≤ old.size) (h1 : cells.all (·.oneCell') = true) :
    (storeVar ty ⟨g, off, none⟩ (.agg cells)).run Tryz.prog w = .ok () (w.setRow g (old.toList.take off ++ cells.toList ++ old.toList.drop (off + cells.size)).toArray) := by
  have h := run_storeCells_at Tryz.prog g off t cells.toList 0 old w hg (by simpa using ho) (fun v hv => (Array.all_eq_true_iff_forall_mem.1 h1) v (by simpa using hv))
  cases hq : Tryz.prog.info? ty with
  | none => simp [hq] at hi
  | some i =>
    have hs : cells.size = i.size := by simp [hq] at hi; omega
    have e : storeVar ty ⟨g, off, none⟩ (.agg cells) = storeVar ty ⟨g, off, none⟩ (.agg cells) := rfl
    rw [Nat.add_zero, Array.length_toList] at h
    simp [storeVar, sizeOf, typeInfo, hq, Value.cells, hs, h]
theorem wpList_store_part {ops : Array Oper} {rest : List Oper} {o : Oper} {a : Act} {w : World} {Q : Exit → Act → World → Prop} (hgd : o.guard = none) (ty : TypeId) (x y : Operand) (ho : o.op = .store ty x y)
    (g off : Nat) (cells : Array Value) (hx : a.eval x = .pointer (some ⟨g, off, none⟩)) (hy : a.eval y = .agg cells) (t : TypeId) (old new : Array Value) (hg : w.heap[g]? = some (.cells old t (0, 0))) (hi : (Tryz.prog.info? ty).map (·.size) = some cells.size)
    (hold : off + cells.size ≤ old.size) (h1 : cells.all (·.oneCell') = true) (hnew : (old.toList.take off ++ cells.toList ++ old.toList.drop (off + cells.size)).toArray = new)
    (h : ∀ w', w'.heap[g]? = some (.cells new t) → Only g w w' → wpList Tryz.prog ops Q rest (a.put o.dst undef) w') : wpList Tryz.prog ops Q (o :: rest) a w :=
  wpList_plain hgd fun _ hK => by
    unfold Oper.wp execOp
    simp only [ho, hx, hy, Instr.storeAt, Instr.sureAddr, Sem.run_bind, Sem.run_pure, Result.andThen_ok, storeVar_part w g off t ty old cells hg hi hold h1, hnew]
    exact hK _ _ (h _ (setRow_heap w g old _ t _ hg) (only_row _ _ _))
theorem skip_start {w : World} {R : Nat} {L : List TK} {fin : Int} {g : Nat} (h : RdAt w R L fin g) :
    Calls Tryz.prog 82 #[.pointer (some ⟨R, 0, none⟩), .int .i64 7] w fun e w' => e = .returned (.bool (kindOf L == 7)) ∧ RdAt w' R (trimStart L) fin g ∧ Only R w w' := by
  by_cases hk : kindOf L = 7
  · obtain ⟨t, ht, htk⟩ := kind_cons hk (by decide)
    have e2 : trimStart L = L.tail := by unfold trimStart; rw [if_pos hk]
    rw [e2, hk]
    generalize L.tail = L2 at ht ⊢
    subst ht
    exact (skip_yes h 7 htk).mono fun e w' ⟨h1, h2, h3⟩ => ⟨h1, h2, h3⟩
  · have e1 : (kindOf L == 7) = false := by simpa using hk
    have e2 : trimStart L = L := by unfold trimStart; rw [if_neg hk]
    rw [e1, e2]
    exact (skip_no h 7 hk).mono fun e w' ⟨h1, h2⟩ => ⟨h1, by rw [h2]; exact h, by rw [h2]; exact ⟨rfl, rfl, rfl, rfl, fun _ _ => rfl⟩⟩
theorem trim_mem {T : List TK} {t : TK} (h : t ∈ trimEnd (trimStart T)) : t ∈ T := by
  have h1 : t ∈ trimStart T := by
    unfold trimEnd at h
    split at h
    · exact List.dropLast_subset _ h
    · exact h
  unfold trimStart at h1
  split at h1
  · exact List.mem_of_mem_tail h1
  · exact h1
theorem pat_cells {w : World} {b : Nat} {cs : Array Value} (h : PatIn w b cs) : w.cell? ⟨b, 0, none⟩ = cs[0]? ∧ w.cell? ⟨b, 1, none⟩ = cs[1]? ∧ ∀ o, w.frozen? ⟨b, o, none⟩ = false := by
  refine ⟨cells_at h 0, cells_at h 1, fun o => ?_⟩
  unfold PatIn at h
  simp [World.frozen?, h]
theorem wpList_load_pat {ops : Array Oper} {rest : List Oper} {o : Oper} {a : Act} {w : World} {Q : Exit → Act → World → Prop} (hgd : o.guard = none) (x : Operand) (ho : o.op = .load 70 x)
    (b : Nat) (cs : Array Value) (hx : a.eval x = .pointer (some ⟨b, 0, none⟩)) (hc : PatIn w b cs) (hs : cs.size = 12)
    (h : wpList Tryz.prog ops Q rest (a.put o.dst (.agg cs)) w) : wpList Tryz.prog ops Q (o :: rest) a w :=
  wpList_plain hgd fun _ hK => by
    unfold Oper.wp execOp
    simp only [ho, hx, Instr.loadAt, Instr.sureAddr, Sem.run_bind, Sem.run_pure, Result.andThen_ok, run_loadVar_row w b _ _ cs _ _ hc Tryz.underlying70 rfl (show _ = some cs.size from by rw [hs]; exact infoPat2)]
    exact hK _ _ h
theorem wpList_store_pat {ops : Array Oper} {rest : List Oper} {o : Oper} {a : Act} {w : World} {Q : Exit → Act → World → Prop} (hgd : o.guard = none) (x y : Operand) (ho : o.op = .store 70 x y)
    (b : Nat) (cs ds : Array Value) (hx : a.eval x = .pointer (some ⟨b, 0, none⟩)) (hy : a.eval y = .agg ds) (hb : PatIn w b cs) (hd : ds.size = 12) (hc : cs.size = 12) (h1 : (ds.all fun x => x.oneCell') = true)
    (h : ∀ w', PatIn w' b ds → Only b w w' → wpList Tryz.prog ops Q rest (a.put o.dst undef) w') : wpList Tryz.prog ops Q (o :: rest) a w :=
  wpList_store_row hgd _ _ _ ho b _ hx hy _ _ hb (by rw [hd]; exact infoPat2) (by rw [hd, hc]) h1 (h _ (setRow_heap w b _ _ _ _ hb) (only_row _ _ _))
theorem one_cell {w : World} {b : Nat} {v : Value} {T : TypeId} (h : w.heap[b]? = some (.cells #[v] T)) : w.cell? ⟨b, 0, none⟩ = some v ∧ w.frozen? ⟨b, 0, none⟩ = false := ⟨by rw [cells_at h]; rfl, by simp [World.frozen?, h]⟩
theorem int_load (w : World) (b : Nat) (v : Value) (h : IntIn w b v) : (loadVar 3 ⟨b, 0, none⟩).run Tryz.prog w = .ok v w := by
  have hagg : (isAgg 3).run Tryz.prog w = .ok false w := by kernel_rfl
  have hc : w.cell? ⟨b, 0, none⟩ = some v := by rw [cells_at h]; rfl
  simp [loadVar, Sem.run_bind, hagg, go_sem, hc]
theorem err_load (w : World) (b : Nat) (v : Value) (h : ErrIn w b v) : (loadVar 34 ⟨b, 0, none⟩).run Tryz.prog w = .ok v w := by
  have hagg : (isAgg 34).run Tryz.prog w = .ok false w := by kernel_rfl
  have hc : w.cell? ⟨b, 0, none⟩ = some v := by rw [cells_at h]; rfl
  simp [loadVar, Sem.run_bind, hagg, go_sem, hc]
theorem results3 {fn : Func} {p q r : Tmp} (h : fn.results = #[.cell p 70, .cell q 3, .cell r 34]) (tmps : Array Value) (w : World) (b : Nat) (cs : Array Value) (u v : Value) (hp : tmps.getD p undef = .pointer (some ⟨b, 0, none⟩)) (hq : tmps.getD q undef = .pointer (some ⟨b + 1, 0, none⟩)) (hr : tmps.getD r undef = .pointer (some ⟨b + 1 + 1, 0, none⟩))
    (h0 : PatIn w b cs) (hc : cs.size = 12) (h1 : IntIn w (b + 1) u) (h2 : ErrIn w (b + 1 + 1) v) : (results fn tmps).run Tryz.prog w = .ok (.tuple #[.agg cs, u, v]) w := by
  have hp' : tmps[p]?.getD undef = .pointer (some ⟨b, 0, none⟩) := by simpa using hp
  have hq' : tmps[q]?.getD undef = .pointer (some ⟨b + 1, 0, none⟩) := by simpa using hq
  have hr' : tmps[r]?.getD undef = .pointer (some ⟨b + 1 + 1, 0, none⟩) := by simpa using hr
  simp [results, h, hp', hq', hr', asAddr, run_loadVar_row w b _ _ cs _ _ h0 Tryz.underlying70 rfl (show _ = some cs.size from by rw [hc]; exact infoPat2), int_load w _ _ h1, err_load w _ _ h2]
theorem leave_bad {w : World} {b0 : Nat} {cs : Array Value} {v1 v2 : Value} {tmps : Array Value} {P : Ending → World → Prop} (k : Int) (h0 : PatIn w b0 cs) (hc : cs.size = 12) (h1 : IntIn w (b0 + 1) v1) (h2 : ErrIn w (b0 + 1 + 1) v2)
    (hp : tmps.getD 4 undef = .pointer (some ⟨b0, 0, none⟩)) (hq : tmps.getD 5 undef = .pointer (some ⟨b0 + 1, 0, none⟩)) (hr : tmps.getD 6 undef = .pointer (some ⟨b0 + 1 + 1, 0, none⟩))
    (hP : ∀ w', Below b0 w w' → P (.returned (.tuple #[.agg zeroPat, .int .i64 k, .int .i64 2])) w') :
    Leaves Tryz.prog Tryz.f54 tmps P [{ target := .fn (.func 81) #[.pointer (some ⟨b0, 0, none⟩), .pointer (some ⟨b0 + 1, 0, none⟩), .pointer (some ⟨b0 + 1 + 1, 0, none⟩)], args := #[] }] (.panicking [{ v := .iface 138 (.int .i64 k), recovered := false }]) w := by
  refine leaves_cons (f := 81) (args := #[.pointer (some ⟨b0, 0, none⟩), .pointer (some ⟨b0 + 1, 0, none⟩), .pointer (some ⟨b0 + 1 + 1, 0, none⟩)]) (by simp) (by simp [go_sem]) ?_
  refine (catch_bad k h0 hc h1 h2).mono ?_
  rintro e u' w' ⟨rfl, rfl, g0, g1, g2, g3⟩
  exact ⟨_, results3 rfl tmps w' b0 _ _ _ hp hq hr g0 rfl g1 g2, hP w' g3⟩
theorem leave_good {w : World} {b0 : Nat} {cs : Array Value} {v1 v2 : Value} {tmps : Array Value} {P : Ending → World → Prop} (h0 : PatIn w b0 cs) (hc : cs.size = 12) (h1 : IntIn w (b0 + 1) v1) (h2 : ErrIn w (b0 + 1 + 1) v2)
    (hp : tmps.getD 4 undef = .pointer (some ⟨b0, 0, none⟩)) (hq : tmps.getD 5 undef = .pointer (some ⟨b0 + 1, 0, none⟩)) (hr : tmps.getD 6 undef = .pointer (some ⟨b0 + 1 + 1, 0, none⟩))
    (hP : P (.returned (.tuple #[.agg cs, v1, v2])) w) :
    Leaves Tryz.prog Tryz.f54 tmps P [{ target := .fn (.func 81) #[.pointer (some ⟨b0, 0, none⟩), .pointer (some ⟨b0 + 1, 0, none⟩), .pointer (some ⟨b0 + 1 + 1, 0, none⟩)], args := #[] }] .returning w := by
  refine leaves_cons (f := 81) (args := #[.pointer (some ⟨b0, 0, none⟩), .pointer (some ⟨b0 + 1, 0, none⟩), .pointer (some ⟨b0 + 1 + 1, 0, none⟩)]) (by simp) (by simp [go_sem]) ?_
  refine (catch_idle b0 (b0 + 1) (b0 + 1 + 1) w).mono ?_
  rintro e u' w' ⟨rfl, rfl, rfl⟩
  exact ⟨_, results3 rfl tmps _ b0 _ _ _ hp hq hr h0 hc h1 h2, hP⟩
set_option maxHeartbeats 8000000 in
theorem read_walk {w : World} {v : Value} {T : List TK} (h : ToksAt w v T) (hT : T.length ≤ 1024) (hb : Bounded T) (hk0 : ∀ t ∈ T, t.1.kind ≠ 0) (n : Nat) :
    Calls Tryz.prog 54 #[v, .int .i64 n] w fun e w' => Below w.heap.size w w' ∧ match readP n T with
      | .bad k => e = .returned (.tuple #[.agg zeroPat, .int .i64 k, .int .i64 2])
      | .ok x _ g => ∃ cs : List Value, e = .returned (.tuple #[.agg (patCells (kindOf T == 7) (endsWith8 (trimStart T)) cs g).toArray, .int .i64 0, .int .i64 0]) ∧ NdFrom w.heap.size w' x cs := by
  have hmf : ∀ (fn : Fn) (first cap : Array Value) (w : World), (Instr.makeFunc fn first cap).run Tryz.prog w = .ok (.func fn first cap) w := fun _ _ _ _ => rfl
  obtain ⟨a, cap, rfl, hv⟩ : ∃ a cap, v = .slice a T.length cap ∧ ToksAt w v T := by
    obtain ⟨a, cap, e, h'⟩ := h
    exact ⟨a, cap, e, a, cap, e, h'⟩
  have hrd := fun o0 o1 o2 => toks_reader hv hT n o0 o1 o2
  obtain ⟨P, hP⟩ : ∃ P : Ending → World → Prop, P = fun e w' => Below w.heap.size w w' ∧ match readP n T with
      | .bad k => e = .returned (.tuple #[.agg zeroPat, .int .i64 k, .int .i64 2])
      | .ok x _ g => ∃ cs : List Value, e = .returned (.tuple #[.agg (patCells (kindOf T == 7) (endsWith8 (trimStart T)) cs g).toArray, .int .i64 0, .int .i64 0]) ∧ NdFrom w.heap.size w' x cs := ⟨_, rfl⟩
  rw [← hP]
  have HP := Lib.hid hP
  have Hrd := Lib.hid hrd
  clear hP hrd h hv
  go_enter_defers Tryz.func54, Tryz.ntmps54
  go_wp2_with fail
  obtain ⟨W4, hW4⟩ : ∃ W4, W4 = (((w.alloc (.cells zeroPat 70)).alloc (.cells #[.int .i64 0] 3)).alloc (.cells #[.int .i64 0] 34)).alloc (.cells #[.slice a T.length cap, .int .i64 n, .int .i64 0] 140) := ⟨_, rfl⟩
  rw [← hW4]
  have hB4 : Below w.heap.size w W4 := by rw [hW4]; exact ((two_below w _ _).alloc (by simp; omega) _).alloc (by simp; omega) _
  have hp0 : PatIn W4 w.heap.size zeroPat := by
    rw [hW4]
    exact (Below.heap_alloc _ _ _ (by simp; omega)).trans ((Below.heap_alloc _ _ _ (by simp; omega)).trans ((Below.heap_alloc _ _ _ (by simp)).trans (World.alloc_heap_new w _)))
  have hi0 : IntIn W4 (w.heap.size + 1) (.int .i64 0) := by
    rw [hW4]
    have h := World.alloc_heap_new (w.alloc (.cells zeroPat 70)) (.cells #[.int .i64 0] 3)
    rw [World.size_alloc] at h
    exact (Below.heap_alloc _ _ _ (by simp)).trans ((Below.heap_alloc _ _ _ (by simp)).trans h)
  have he0 : ErrIn W4 (w.heap.size + 1 + 1) (.int .i64 0) := by
    rw [hW4]
    have h := World.alloc_heap_new ((w.alloc (.cells zeroPat 70)).alloc (.cells #[.int .i64 0] 3)) (.cells #[.int .i64 0] 34)
    simp only [World.size_alloc] at h
    exact (Below.heap_alloc _ _ _ (by simp)).trans h
  have hR4 : RdAt W4 (w.heap.size + 1 + 1 + 1) T n 0 := by rw [hW4]; exact Hrd.out _ _ _
  clear hW4 Hrd
  refine (skip_start hR4).mono ?_
  rintro e w5 ⟨rfl, hR5, ho5⟩
  generalize hst : (kindOf T == 7) = st at *
  have hp5 : PatIn w5 w.heap.size zeroPat := (ho5.block _ (by omega)).trans hp0
  have hi5 : IntIn w5 (w.heap.size + 1) (.int .i64 0) := (ho5.block _ (by omega)).trans hi0
  have he5 : ErrIn w5 (w.heap.size + 1 + 1) (.int .i64 0) := (ho5.block _ (by omega)).trans he0
  have hB5 : Below w.heap.size w w5 := ho5.below hB4 (by omega)
  obtain ⟨q0, _, f0⟩ := pat_cells hp5
  have hf0 := f0 0
  -- p.Start is laid
  have ho6 : Only w.heap.size w5 (w5.setCell ⟨w.heap.size, 0, none⟩ (.bool st)) := only_setCell _ _ _ _
  have hp6 : PatIn (w5.setCell ⟨w.heap.size, 0, none⟩ (.bool st)) w.heap.size #[.bool st, .bool false, .int .i64 0, .int .u64 0, .int .u64 0, .int .u64 0, .int .u64 0, .int .i64 0, .int .i64 0, .int .i64 0, .slice none 0 0, .int .i64 0] := by
    show _ = _; rw [heap_setCell_same w5 w.heap.size 0 _ _ _ hp5]; rfl
  have hR6 := hR5.apart ho6 (by omega) (by omega)
  have hcut := cutEnd_walk hR6
  have hi6 : IntIn (w5.setCell ⟨w.heap.size, 0, none⟩ (.bool st)) (w.heap.size + 1) (.int .i64 0) := (ho6.block _ (by omega)).trans hi5
  have he6 : ErrIn (w5.setCell ⟨w.heap.size, 0, none⟩ (.bool st)) (w.heap.size + 1 + 1) (.int .i64 0) := (ho6.block _ (by omega)).trans he5
  have hB6 := ho6.below hB5 (Nat.le_refl _)
  have Hp6 := Lib.hid hp6
  have Hi6 := Lib.hid hi6
  have He6 := Lib.hid he6
  have HB6 := Lib.hid hB6
  have Hst := Lib.hid hst
  clear hp6 hi6 he6 hB6 hR6 ho6 hp5 hi5 he5 hB5 hR5 ho5 hp0 hi0 he0 hB4 hR4 f0 hst
  go_wp2_with fail
  refine hcut.mono ?_
  clear hcut
  rintro e w7 ⟨rfl, hR7, ho7⟩
  generalize hen : endsWith8 (trimStart T) = en at *
  have hp7 : PatIn w7 w.heap.size _ := (ho7.block _ (by omega)).trans Hp6.out
  have hi7 : IntIn w7 (w.heap.size + 1) (.int .i64 0) := (ho7.block _ (by omega)).trans Hi6.out
  have he7 : ErrIn w7 (w.heap.size + 1 + 1) (.int .i64 0) := (ho7.block _ (by omega)).trans He6.out
  have hB7 : Below w.heap.size w w7 := ho7.below HB6.out (by omega)
  obtain ⟨_, q1, f1⟩ := pat_cells hp7
  have hf1 := f1 1
  have ho8 : Only w.heap.size w7 (w7.setCell ⟨w.heap.size, 1, none⟩ (.bool en)) := only_setCell _ _ _ _
  have hp8 : PatIn (w7.setCell ⟨w.heap.size, 1, none⟩ (.bool en)) w.heap.size #[.bool st, .bool en, .int .i64 0, .int .u64 0, .int .u64 0, .int .u64 0, .int .u64 0, .int .i64 0, .int .i64 0, .int .i64 0, .slice none 0 0, .int .i64 0] := by
    show _ = _; rw [heap_setCell_same w7 w.heap.size 1 _ _ _ hp7]; rfl
  have hR8 := hR7.apart ho8 (by omega) (by omega)
  have hbL : Bounded (trimEnd (trimStart T)) := fun t ht => hb t (trim_mem ht)
  have hkL : ∀ t ∈ trimEnd (trimStart T), t.1.kind ≠ 0 := fun t ht => hk0 t (trim_mem ht)
  have halt := alternative_all _ _ ((trimEnd (trimStart T)).length + 1) _ _ 0 (by omega) hbL hR8
  have hi8 : IntIn (w7.setCell ⟨w.heap.size, 1, none⟩ (.bool en)) (w.heap.size + 1) (.int .i64 0) := (ho8.block _ (by omega)).trans hi7
  have he8 : ErrIn (w7.setCell ⟨w.heap.size, 1, none⟩ (.bool en)) (w.heap.size + 1 + 1) (.int .i64 0) := (ho8.block _ (by omega)).trans he7
  have hB8 := ho8.below hB7 (Nat.le_refl _)
  have hs8 : w.heap.size + 3 < (w7.setCell ⟨w.heap.size, 1, none⟩ (.bool en)).heap.size := rd_lt hR8
  have Hp8 := Lib.hid hp8
  have Hi8 := Lib.hid hi8
  have He8 := Lib.hid he8
  have HB8 := Lib.hid hB8
  have Hs8 := Lib.hid hs8
  have Hen := Lib.hid hen
  have HkL := Lib.hid hkL
  have HR : Hid (readP n T = (altF (finOf n (trimStart T)) ((trimEnd (trimStart T)).length + 1) (trimEnd (trimStart T)) 0).bind fun x l g => if l = [] then .ok x l g else .bad (placeOf (finOf n (trimStart T)) l)) := rfl
  have Hb := Lib.hid hb
  have Hk0 := Lib.hid hk0
  clear hp8 hi8 he8 hB8 hs8 hR8 ho8 hp7 hi7 he7 hB7 hR7 ho7 Hp6 Hi6 He6 HB6 f1 hen q0 hf0 hbL hkL hb hk0
  generalize finOf (n : Int) (trimStart T) = fin at *
  generalize trimEnd (trimStart T) = L at *
  go_wp2_with fail
  cases hr : altF fin (L.length + 1) L 0 with
  | bad k =>
    rw [hr] at halt
    refine halt.mono ?_
    rintro e w9 ⟨rfl, hb9⟩
    have hs := Hs8.out
    refine leave_bad k ((hb9.block _ (by omega) (by omega)).trans Hp8.out) rfl ((hb9.block _ (by omega) (by omega)).trans Hi8.out) ((hb9.block _ (by omega) (by omega)).trans He8.out) rfl rfl rfl (fun w' hw' => ?_)
    rw [HP.out]
    refine ⟨(hb9.below HB8.out (by omega) (by omega)).trans hw', ?_⟩
    rw [HR.out, hr]
    rfl
  | ok x l g =>
    rw [hr] at halt
    refine halt.mono ?_
    rintro e w9 ⟨cs, rfl, hnd9, hR9, hb9⟩
    obtain ⟨kq, sq, loq, hiq, nq, aq, lenq, capq, rfl⟩ := hnd9.cells
    have hs := Hs8.out
    have hp9 : PatIn w9 w.heap.size _ := (hb9.block _ (by omega) (by omega)).trans Hp8.out
    have hi9 : IntIn w9 (w.heap.size + 1) (.int .i64 0) := (hb9.block _ (by omega) (by omega)).trans Hi8.out
    have he9 : ErrIn w9 (w.heap.size + 1 + 1) (.int .i64 0) := (hb9.block _ (by omega) (by omega)).trans He8.out
    have hB9 : Below w.heap.size w w9 := hb9.below HB8.out (by omega) (by omega)
    have Hp9 := Lib.hid hp9
    have Hi9 := Lib.hid hi9
    have He9 := Lib.hid he9
    have HB9 := Lib.hid hB9
    have Hnd9 := Lib.hid hnd9
    have HR9 := Lib.hid hR9
    have Hr := Lib.hid hr
    clear hp9 hi9 he9 hB9 hnd9 hR9 hr Hp8 Hi8 He8 HB8 hb9 halt
    go_wp2_with (first
      | (refine wpList_store_part rfl _ _ _ rfl w.heap.size 2 _ rfl rfl _ _ #[.bool st, .bool en, .int .i64 kq, .int .u64 (word sq 0), .int .u64 (word sq 1), .int .u64 (word sq 2), .int .u64 (word sq 3), .int .i64 loq, .int .i64 hiq, .int .i64 nq, .slice aq lenq capq, .int .i64 0] Hp9.out infoNode (by simp) (by simp [Value.oneCell']) rfl ?_
         intro w10 hp10 ho10
         have hR10 := HR9.out.apart ho10 (by omega) (by omega)
         have Hp10 := Lib.hid (show PatIn w10 w.heap.size _ from hp10)
         have Ho10 := Lib.hid ho10
         have HR10 := Lib.hid hR10
         clear hp10 ho10 hR10)
      | fail)
    have hkw := kind_walk HR10.out
    have hB10 := Ho10.out.below HB9.out (Nat.le_refl _)
    have hi10 : IntIn w10 (w.heap.size + 1) (.int .i64 0) := (Ho10.out.block _ (by omega)).trans Hi9.out
    have he10 : ErrIn w10 (w.heap.size + 1 + 1) (.int .i64 0) := (Ho10.out.block _ (by omega)).trans He9.out
    by_cases hl : l = []
    · subst hl
      rw [show kindOf ([] : List TK) = 0 from rfl] at hkw
      refine hkw.mono ?_
      clear hkw
      rintro e w11 ⟨rfl, rfl⟩
      obtain ⟨_, _, _, _, c2, _, _, hg, _⟩ := rd_open HR10.out
      have c11 : w11.cell? ⟨w.heap.size, 11, none⟩ = some (.int .i64 0) := by rw [cells_at Hp10.out]; rfl
      obtain ⟨_, _, f10⟩ := pat_cells Hp10.out
      have hf11 := f10 11
      have ho12 : Only w.heap.size w11 (w11.setCell ⟨w.heap.size, 11, none⟩ (.int .i64 g)) := only_setCell _ _ _ _
      have hp12 : PatIn (w11.setCell ⟨w.heap.size, 11, none⟩ (.int .i64 g)) w.heap.size #[.bool st, .bool en, .int .i64 kq, .int .u64 (word sq 0), .int .u64 (word sq 1), .int .u64 (word sq 2), .int .u64 (word sq 3), .int .i64 loq, .int .i64 hiq, .int .i64 nq, .slice aq lenq capq, .int .i64 g] := by
        show _ = _; rw [heap_setCell_same w11 w.heap.size 11 _ _ _ Hp10.out]; rfl
      have hi12 : IntIn (w11.setCell ⟨w.heap.size, 11, none⟩ (.int .i64 g)) (w.heap.size + 1) (.int .i64 0) := (ho12.block _ (by omega)).trans hi10
      have he12 : ErrIn (w11.setCell ⟨w.heap.size, 11, none⟩ (.int .i64 g)) (w.heap.size + 1 + 1) (.int .i64 0) := (ho12.block _ (by omega)).trans he10
      have hB12 := ho12.below hB10 (Nat.le_refl _)
      have hnd12 : NdFrom (w.heap.size + 1 + 1 + 1) (w11.setCell ⟨w.heap.size, 11, none⟩ (.int .i64 g)) x _ := (Hnd9.out.only Ho10.out (by omega) (Nat.le_of_lt hs)).only ho12 (by omega) (Nat.le_refl _)
      have Hp12 := Lib.hid hp12
      have Hi12 := Lib.hid hi12
      have He12 := Lib.hid he12
      have HB12 := Lib.hid hB12
      have Hnd12 := Lib.hid hnd12
      have Hg := Lib.hid hg
      clear hp12 hi12 he12 hB12 hnd12 ho12 f10 hi10 he10 hB10 hg Hnd9
      go_wp2_with (first
        | (refine wpList_load_pat rfl _ rfl w.heap.size _ rfl Hp12.out rfl ?_)
        | (refine wpList_store_pat rfl _ _ rfl w.heap.size _ #[.bool st, .bool en, .int .i64 kq, .int .u64 (word sq 0), .int .u64 (word sq 1), .int .u64 (word sq 2), .int .u64 (word sq 3), .int .i64 loq, .int .i64 hiq, .int .i64 nq, .slice aq lenq capq, .int .i64 g] rfl rfl Hp12.out rfl rfl (by simp [Value.oneCell']) ?_
           intro w13 hp13 ho13
           have hi13 : IntIn w13 (w.heap.size + 1) (.int .i64 0) := (ho13.block _ (by omega)).trans Hi12.out
           have he13 : ErrIn w13 (w.heap.size + 1 + 1) (.int .i64 0) := (ho13.block _ (by omega)).trans He12.out
           have ho14 : Only (w.heap.size + 1) w13 (w13.setCell ⟨w.heap.size + 1, 0, none⟩ (.int .i64 0)) := only_setCell _ _ _ _
           have he14 : ErrIn (w13.setCell ⟨w.heap.size + 1, 0, none⟩ (.int .i64 0)) (w.heap.size + 1 + 1) (.int .i64 0) := (ho14.block _ (by omega)).trans he13
           obtain ⟨ci, fi⟩ := one_cell hi13
           obtain ⟨ce, fe⟩ := one_cell he14
           have Hp13 := Lib.hid hp13
           have Hi13 := Lib.hid hi13
           have He13 := Lib.hid he13
           have He14 := Lib.hid he14
           have Ho13 := Lib.hid ho13
           have Ho14 := Lib.hid ho14
           clear hp13 hi13 he13 he14 ho13 ho14)
        | fail)
      have ho15 : Only (w.heap.size + 1 + 1) (w13.setCell ⟨w.heap.size + 1, 0, none⟩ (.int .i64 0)) ((w13.setCell ⟨w.heap.size + 1, 0, none⟩ (.int .i64 0)).setCell ⟨w.heap.size + 1 + 1, 0, none⟩ (.int .i64 0)) := only_setCell _ _ _ _
      have hp15 : PatIn ((w13.setCell ⟨w.heap.size + 1, 0, none⟩ (.int .i64 0)).setCell ⟨w.heap.size + 1 + 1, 0, none⟩ (.int .i64 0)) w.heap.size _ := (ho15.block _ (by omega)).trans ((Ho14.out.block _ (by omega)).trans Hp13.out)
      have hi15 : IntIn ((w13.setCell ⟨w.heap.size + 1, 0, none⟩ (.int .i64 0)).setCell ⟨w.heap.size + 1 + 1, 0, none⟩ (.int .i64 0)) (w.heap.size + 1) (.int .i64 0) := (ho15.block _ (by omega)).trans (one_setCell Hi13.out)
      have he15 : ErrIn ((w13.setCell ⟨w.heap.size + 1, 0, none⟩ (.int .i64 0)).setCell ⟨w.heap.size + 1 + 1, 0, none⟩ (.int .i64 0)) (w.heap.size + 1 + 1) (.int .i64 0) := one_setCell He14.out
      have hB15 := ho15.below (Ho14.out.below (Ho13.out.below HB12.out (Nat.le_refl _)) (by omega)) (by omega)
      have hnd15 : NdFrom (w.heap.size + 1 + 1 + 1) ((w13.setCell ⟨w.heap.size + 1, 0, none⟩ (.int .i64 0)).setCell ⟨w.heap.size + 1 + 1, 0, none⟩ (.int .i64 0)) x _ := ((Hnd12.out.only Ho13.out (by omega) (Nat.le_refl _)).only Ho14.out (by omega) (Nat.le_refl _)).only ho15 (by omega) (Nat.le_refl _)
      refine leave_good hp15 rfl hi15 he15 rfl rfl rfl ?_
      rw [HP.out]
      refine ⟨hB15, ?_⟩
      rw [HR.out, Hr.out]
      simp only [PR.bind, if_true]
      exact ⟨_, rfl, hnd15.keep (by omega) (Nat.le_refl _) (fun _ _ _ => rfl)⟩
    · have htk := alt_takes fin (L.length + 1) L 0 x l g Hr.out
      obtain ⟨⟨C, _, _, hC⟩, _⟩ := htk
      have hkl : kindOf l ≠ 0 := by
        cases l with
        | nil => exact absurd rfl hl
        | cons t l => exact HkL.out t (by rw [hC]; simp)
      have hms := misplace_walk HR10.out
      have hd1 : decide (((kindOf l : Nat) : Int) = 0) = false := decide_eq_false (by omega)
      have hd2 : (((kindOf l : Nat) : Int) == 0) = false := by simp; omega
      have hd3 : (((kindOf l : Nat) : Int) != 0) = true := by simp; omega
      have Hl := Lib.hid hl
      have HB10 := Lib.hid hB10
      have Hi10 := Lib.hid hi10
      have He10 := Lib.hid he10
      refine hkw.mono ?_
      rintro e w11 ⟨rfl, rfl⟩
      clear hkw hl hC hB10 hi10 he10
      generalize kindOf l = kl at *
      go_wp2_with fail
      refine hms.mono ?_
      rintro e w12 ⟨rfl, rfl⟩
      refine leave_bad (placeOf fin l) Hp10.out rfl Hi10.out He10.out rfl rfl rfl (fun w' hw' => ?_)
      rw [HP.out]
      refine ⟨HB10.out.trans hw', ?_⟩
      rw [HR.out, Hr.out]
      simp only [PR.bind]
      rw [if_neg Hl.out]
/-! parse.Of at every text. -/
/-- a token's kind is no zero, and its bounds are small -/
def TokFine (t : Tok) : Prop := t.kind ≠ 0 ∧ -1 ≤ t.lo ∧ t.lo ≤ 255 ∧ -1 ≤ t.hi ∧ t.hi ≤ 255
theorem fine_mk {k : Nat} {s : BitVec 256} {lo hi : Int} (h1 : k ≠ 0) (h2 : -1 ≤ lo) (h3 : lo ≤ 255) (h4 : -1 ≤ hi) (h5 : hi ≤ 255) : TokFine ⟨k, s, lo, hi⟩ := ⟨h1, h2, h3, h4, h5⟩
theorem often_fine (q : List Nat) (t : Tok) (rest : List Nat) (h : often q = .ok t rest) : TokFine t := by
  unfold often at h
  simp only at h
  split at h
  · cases h
  split at h
  · cases h
  rename_i h255
  split at h
  · cases h; exact fine_mk (by decide) (by omega) (by omega) (by omega) (by omega)
  · cases h; exact fine_mk (by decide) (by omega) (by omega) (by decide) (by decide)
  · split at h
    · cases h
    split at h
    · cases h
    rename_i h2
    split at h
    · split at h
      · cases h
      · cases h; exact fine_mk (by decide) (by omega) (by omega) (by omega) (by omega)
    · cases h
  · cases h
theorem open_fine (r : List Nat) (t : Tok) (rest : List Nat) (h : (match r with | 63 :: 58 :: r2 => TR.ok ⟨3, 0, 0, 0⟩ r2 | _ => TR.ok ⟨2, 0, 0, 0⟩ r) = .ok t rest) : TokFine t := by
  split at h
  · cases h; exact fine_mk (by decide) (by decide) (by decide) (by decide) (by decide)
  · cases h; exact fine_mk (by decide) (by decide) (by decide) (by decide) (by decide)
theorem escape_fine (q : List Nat) (t : Tok) (rest : List Nat) (h : escape q = .ok t rest) : TokFine t := by
  cases q with
  | nil => cases h
  | cons c r =>
    unfold escape at h
    simp only at h
    by_cases hc : c ∈ specials
    · rw [if_pos hc] at h; cases h; exact fine_mk (by decide) (by decide) (by decide) (by decide) (by decide)
    · rw [if_neg hc] at h
      by_cases hd : 49 ≤ c ∧ c ≤ 57
      · rw [if_pos hd] at h; cases h
      · rw [if_neg hd] at h; cases h
theorem tokOf_fine (cls : List Nat → Option (BitVec 256)) (x : Nat) (r : List Nat) (t : Tok) (rest : List Nat) (h : tokOf cls x r = .ok t rest) : TokFine t := by
  unfold tokOf at h
  by_cases h42 : x = 42
  · rw [if_pos h42] at h; cases h; exact fine_mk (by decide) (by decide) (by decide) (by decide) (by decide)
  rw [if_neg h42] at h
  by_cases h43 : x = 43
  · rw [if_pos h43] at h; cases h; exact fine_mk (by decide) (by decide) (by decide) (by decide) (by decide)
  rw [if_neg h43] at h
  by_cases h63 : x = 63
  · rw [if_pos h63] at h; cases h; exact fine_mk (by decide) (by decide) (by decide) (by decide) (by decide)
  rw [if_neg h63] at h
  by_cases h123 : x = 123
  · rw [if_pos h123] at h; exact often_fine _ _ _ h
  rw [if_neg h123] at h
  by_cases h40 : x = 40
  · rw [if_pos h40] at h; exact open_fine _ _ _ h
  rw [if_neg h40] at h
  by_cases h41 : x = 41
  · rw [if_pos h41] at h; cases h; exact fine_mk (by decide) (by decide) (by decide) (by decide) (by decide)
  rw [if_neg h41] at h
  by_cases h124 : x = 124
  · rw [if_pos h124] at h; cases h; exact fine_mk (by decide) (by decide) (by decide) (by decide) (by decide)
  rw [if_neg h124] at h
  by_cases h94 : x = 94
  · rw [if_pos h94] at h; cases h; exact fine_mk (by decide) (by decide) (by decide) (by decide) (by decide)
  rw [if_neg h94] at h
  by_cases h36 : x = 36
  · rw [if_pos h36] at h; cases h; exact fine_mk (by decide) (by decide) (by decide) (by decide) (by decide)
  rw [if_neg h36] at h
  by_cases h46 : x = 46
  · rw [if_pos h46] at h; cases h; exact fine_mk (by decide) (by decide) (by decide) (by decide) (by decide)
  rw [if_neg h46] at h
  by_cases h92 : x = 92
  · rw [if_pos h92] at h; exact escape_fine _ _ _ h
  rw [if_neg h92] at h
  by_cases h91 : x = 91
  · rw [if_pos h91] at h; obtain ⟨s, _, rfl⟩ := ofBR_ok h; exact fine_mk (by decide) (by decide) (by decide) (by decide) (by decide)
  rw [if_neg h91] at h
  cases h; exact fine_mk (by decide) (by decide) (by decide) (by decide) (by decide)
theorem cut_fine (cls : List Nat → Option (BitVec 256)) : ∀ (f at_ : Nat) (q : List Nat), ∀ p ∈ (cutFrom cls f at_ q).2, TokFine p.1
  | 0, _, _, p, hp => by cases hp
  | f + 1, _, [], p, hp => by cases hp
  | f + 1, at_, x :: r, p, hp => by
    unfold cutFrom at hp
    cases ht : tokOf cls x r with
    | bad e => rw [ht] at hp; cases hp
    | ok t rest =>
      rw [ht] at hp
      rcases List.mem_cons.1 hp with rfl | hp
      · exact tokOf_fine cls x r t rest ht
      · exact cut_fine cls f _ rest p hp
theorem fits_small {n : Int} (h1 : -1 ≤ n) (h2 : n ≤ 255) : fits64 n := by
  show (Lit.int .i64 n).wf = true
  simp [Lit.wf, IntKind.min, IntKind.max, IntKind.signed, IntKind.bits]
  omega
theorem results_of {fn : Func} {p u v : Tmp} (h : fn.results = #[.cell p 70, .tmp u, .tmp v]) (tmps : Array Value) (w : World) (b : Nat) (cs : Array Value) (hp : tmps.getD p undef = .pointer (some ⟨b, 0, none⟩)) (h0 : PatIn w b cs) (hc : cs.size = 12) :
    (results fn tmps).run Tryz.prog w = .ok (.tuple #[.agg cs, tmps.getD u undef, tmps.getD v undef]) w := by
  have hp' : tmps[p]?.getD undef = .pointer (some ⟨b, 0, none⟩) := by simpa using hp
  simp [results, h, hp', asAddr, run_loadVar_row w b _ _ cs _ _ h0 Tryz.underlying70 rfl (show _ = some cs.size from by rw [hc]; exact infoPat2)]
/-- what Of hands back -/
def OfPost (w : World) (n : Nat) : PO → Ending → World → Prop
  | .err k e', e, w' => e = .returned (.tuple #[.agg zeroPat, .int .i64 k, .int .i64 e']) ∧ Below w.heap.size w w'
  | .ok st en x g, e, w' => ∃ cs : List Value, e = .returned (.tuple #[.agg (patCells st en cs (g : Nat)).toArray, .int .i64 n, .int .i64 0]) ∧ Nd.at w' x cs ∧ Below w.heap.size w w'
theorem pat_zero (w : World) : PatIn (w.alloc (.cells zeroPat 70)) w.heap.size zeroPat := World.alloc_heap_new w _
set_option maxHeartbeats 4000000 in
/-- Of: the tokens are none -/
theorem of_cut {w : World} {s : ByteArray} (k e' : Int) (he : (e' == 0) = false) (hcut : ∀ o : Obj, Calls Tryz.prog 53 #[.string s] (w.alloc o) fun e w' => e = .returned (.tuple #[.slice none 0 0, .int .i64 k, .int .i64 e']) ∧ Below (w.alloc o).heap.size (w.alloc o) w') :
    Calls Tryz.prog 30 #[.string s] w fun e w' => e = .returned (.tuple #[.agg zeroPat, .int .i64 k, .int .i64 e']) ∧ Below w.heap.size w w' := by
  have hp0 := pat_zero w
  have Hp0 := Lib.hid hp0
  clear hp0
  go_enter Tryz.func30, Tryz.ntmps30
  go_wp2_with fail
  refine (hcut _).mono ?_
  clear hcut
  rintro e w1 ⟨rfl, hb1⟩
  have Hp1 := Lib.hid (show PatIn w1 w.heap.size zeroPat from (hb1.block _ (by simp)).trans Hp0.out)
  have HB1 := Lib.hid (((Below.refl w.heap.size w).alloc (Nat.le_refl _) _).trans (hb1.mono (by simp)))
  clear hb1
  go_wp2_with (first
    | (refine wpList_store_pat rfl _ _ rfl w.heap.size zeroPat zeroPat rfl rfl Hp1.out rfl rfl (by simp [Value.oneCell']) ?_; intro w2 hp2 ho2)
    | fail)
  exact bodyPost_ret (results_of rfl _ _ w.heap.size _ rfl hp2 rfl) rfl ⟨rfl, ho2.below HB1.out (Nat.le_refl _)⟩
/-! parse.Of at every text, whole. -/
theorem err_rangeOf (x : Nat) (r : List Nat) (e : Nat) (h : rangeOf x r = .bad e) : e ≠ 0 := by
  unfold rangeOf at h
  split at h
  · rename_i y r2
    by_cases h1 : y = 93
    · rw [if_pos h1] at h; cases h
    rw [if_neg h1] at h
    by_cases h2 : y = 91 ∧ (r2.head? = some 46 ∨ r2.head? = some 61)
    · rw [if_pos h2] at h; cases h; decide
    rw [if_neg h2] at h
    by_cases h3 : y = 91 ∧ r2.head? = some 58 ∨ y < x
    · rw [if_pos h3] at h; cases h; decide
    · rw [if_neg h3] at h; cases h
  · cases h; decide
  · cases h
theorem err_classItem (cls : List Nat → Option (BitVec 256)) (r : List Nat) (e : Nat) (h : classItem cls r = .bad e) : e ≠ 0 := by
  unfold classItem at h
  split at h
  · cases h; decide
  · split at h
    · cases h; decide
    · cases h
theorem err_item (cls : List Nat → Option (BitVec 256)) (first : Bool) (x : Nat) (r : List Nat) (e : Nat) (h : item cls first x r = .bad e) : e ≠ 0 := by
  unfold item at h
  by_cases h1 : x = 91 ∧ (r.head? = some 46 ∨ r.head? = some 61)
  · rw [if_pos h1] at h; cases h; decide
  rw [if_neg h1] at h
  by_cases h2 : x = 91 ∧ r.head? = some 58
  · rw [if_pos h2] at h; exact err_classItem cls _ _ h
  rw [if_neg h2] at h
  by_cases h3 : x = 45 ∧ first = false ∧ r.head? ≠ some 93
  · rw [if_pos h3] at h; cases h; decide
  rw [if_neg h3] at h
  exact err_rangeOf x r e h
theorem err_items (cls : List Nat → Option (BitVec 256)) : ∀ (f : Nat) (first : Bool) (s : BitVec 256) (q : List Nat) (e : Nat), items cls f first s q = .bad e → e ≠ 0
  | 0, _, _, _, e, h => by cases h; decide
  | f + 1, first, s, [], e, h => by cases h; decide
  | f + 1, first, s, x :: r, e, h => by
    unfold items at h
    by_cases h1 : x = 93 ∧ first = false
    · rw [if_pos h1] at h; cases h
    rw [if_neg h1] at h
    cases hi : item cls first x r with
    | bad e2 => rw [hi] at h; cases h; exact err_item cls first x r _ hi
    | ok t rest => rw [hi] at h; exact err_items cls f false (s ||| t) rest e h
theorem err_bracket (cls : List Nat → Option (BitVec 256)) (q : List Nat) (e : Nat) (h : bracket cls q = .bad e) : e ≠ 0 := by
  unfold bracket at h
  cases hi : (if q.head? = some 94 then items cls (q.length + 1) true 0 q.tail else items cls (q.length + 1) true 0 q) with
  | bad e2 =>
    rw [hi] at h
    cases h
    by_cases h1 : q.head? = some 94
    · rw [if_pos h1] at hi; exact err_items cls _ _ _ _ _ hi
    · rw [if_neg h1] at hi; exact err_items cls _ _ _ _ _ hi
  | ok s rest =>
    rw [hi] at h
    simp only at h
    generalize (if q.head? = some 94 then ~~~s else s) = t at h
    by_cases h1 : t = 0
    · rw [if_pos h1] at h; cases h; decide
    · rw [if_neg h1] at h; cases h
theorem err_often (q : List Nat) (e : Nat) (h : often q = .bad e) : e ≠ 0 := by
  unfold often at h
  simp only at h
  split at h
  · cases h; decide
  split at h
  · cases h; decide
  split at h
  · cases h
  · cases h
  · split at h
    · cases h; decide
    split at h
    · cases h; decide
    split at h
    · split at h
      · cases h; decide
      · cases h
    · cases h; decide
  · cases h; decide
theorem err_escape (q : List Nat) (e : Nat) (h : escape q = .bad e) : e ≠ 0 := by
  cases q with
  | nil => cases h; decide
  | cons c r =>
    unfold escape at h
    simp only at h
    by_cases hc : c ∈ specials
    · rw [if_pos hc] at h; cases h
    · rw [if_neg hc] at h
      by_cases hd : 49 ≤ c ∧ c ≤ 57
      · rw [if_pos hd] at h; cases h; decide
      · rw [if_neg hd] at h; cases h; decide
theorem err_open (r : List Nat) (e : Nat) (h : (match r with | 63 :: 58 :: r2 => TR.ok ⟨3, 0, 0, 0⟩ r2 | _ => TR.ok ⟨2, 0, 0, 0⟩ r) = .bad e) : e ≠ 0 := by
  split at h <;> cases h
theorem err_tokOf (cls : List Nat → Option (BitVec 256)) (x : Nat) (r : List Nat) (e : Nat) (h : tokOf cls x r = .bad e) : e ≠ 0 := by
  unfold tokOf at h
  by_cases h42 : x = 42
  · rw [if_pos h42] at h; cases h
  rw [if_neg h42] at h
  by_cases h43 : x = 43
  · rw [if_pos h43] at h; cases h
  rw [if_neg h43] at h
  by_cases h63 : x = 63
  · rw [if_pos h63] at h; cases h
  rw [if_neg h63] at h
  by_cases h123 : x = 123
  · rw [if_pos h123] at h; exact err_often _ _ h
  rw [if_neg h123] at h
  by_cases h40 : x = 40
  · rw [if_pos h40] at h; exact err_open _ _ h
  rw [if_neg h40] at h
  by_cases h41 : x = 41
  · rw [if_pos h41] at h; cases h
  rw [if_neg h41] at h
  by_cases h124 : x = 124
  · rw [if_pos h124] at h; cases h
  rw [if_neg h124] at h
  by_cases h94 : x = 94
  · rw [if_pos h94] at h; cases h
  rw [if_neg h94] at h
  by_cases h36 : x = 36
  · rw [if_pos h36] at h; cases h
  rw [if_neg h36] at h
  by_cases h46 : x = 46
  · rw [if_pos h46] at h; cases h
  rw [if_neg h46] at h
  by_cases h92 : x = 92
  · rw [if_pos h92] at h; exact err_escape _ _ h
  rw [if_neg h92] at h
  by_cases h91 : x = 91
  · rw [if_pos h91] at h
    cases hb : bracket cls r with
    | bad e2 => rw [hb] at h; cases h; exact err_bracket cls r _ hb
    | ok s rest => rw [hb] at h; cases h
  rw [if_neg h91] at h
  cases h
theorem cut_err (cls : List Nat → Option (BitVec 256)) : ∀ (f at_ : Nat) (q : List Nat) (p : Nat × Nat), (cutFrom cls f at_ q).1 = some p → p.2 ≠ 0
  | 0, _, _, p, hp => by cases hp
  | f + 1, _, [], p, hp => by cases hp
  | f + 1, at_, x :: r, p, hp => by
    unfold cutFrom at hp
    cases ht : tokOf cls x r with
    | bad e => rw [ht] at hp; cases hp; exact err_tokOf cls x r e ht
    | ok t rest => rw [ht] at hp; exact cut_err cls f _ rest p hp
theorem at_lit {W : World} {x : Nd} {cs : List Value} (h : Nd.at W x cs) : ∃ (k : Int) (s : BitVec 256) (lo hi n : Int) (a : Option Addr) (len cap : Nat), cs = [.int .i64 k, .int .u64 (word s 0), .int .u64 (word s 1), .int .u64 (word s 2), .int .u64 (word s 3), .int .i64 lo, .int .i64 hi, .int .i64 n, .slice a len cap] := by
  obtain ⟨s, lo, hi, n, a, cap, _, e⟩ := at_cells h
  exact ⟨_, s, lo, hi, n, a, _, cap, e⟩
/-- Cut at a text that is one, with what its tokens are -/
theorem cut_toks {w : World} {s : ByteArray} {T : List TK} (hs : s.size ≤ 1024) (hc : cutAll cls (nats s) = (none, T)) (hm : MaxAt w) :
    (T.length ≤ 1024 ∧ Bounded T ∧ ∀ t ∈ T, t.1.kind ≠ 0) ∧ Calls Tryz.prog 53 #[.string s] w fun e w' => ∃ a cap, e = .returned (.tuple #[.slice a T.length cap, .int .i64 s.size, .int .i64 0]) ∧ ToksAt w' (.slice a T.length cap) T ∧ Below w.heap.size w w' := by
  have hT : T = (cutFrom cls ((nats s).length + 1) 0 (nats s)).2 := by rw [show cutFrom cls ((nats s).length + 1) 0 (nats s) = cutAll cls (nats s) from rfl, hc]
  refine ⟨⟨?_, ?_, ?_⟩, ?_⟩
  · have := cut_length cls ((nats s).length + 1) 0 (nats s)
    rw [← hT, nats_length] at this
    omega
  · intro t ht
    rw [hT] at ht
    obtain ⟨_, h1, h2, h3, h4⟩ := cut_fine cls _ _ _ t ht
    exact ⟨fits_small h1 h2, fits_small h3 h4⟩
  · intro t ht
    rw [hT] at ht
    exact (cut_fine cls _ _ _ t ht).1
  · refine (cut_good s hs T hc w hm).mono fun e w' ⟨v, h1, h2, h3⟩ => ?_
    obtain ⟨a, cap, rfl, h⟩ := h2
    exact ⟨a, cap, h1, ⟨a, cap, rfl, h⟩, h3⟩
set_option maxHeartbeats 4000000 in
theorem of_bad {w : World} {s : ByteArray} {T : List TK} (hs : s.size ≤ 1024) (hc : cutAll cls (nats s) = (none, T)) (hm : MaxAt w) (k : Int) (hr : readP s.size T = .bad k) :
    Calls Tryz.prog 30 #[.string s] w fun e w' => e = .returned (.tuple #[.agg zeroPat, .int .i64 k, .int .i64 2]) ∧ Below w.heap.size w w' := by
  have hct := fun o : Obj => (cut_toks (w := w.alloc o) hs hc (maxAt_below hm ((Below.refl _ _).alloc (Nat.le_refl _) o))).2
  have hfine := (cut_toks hs hc hm).1
  have Hp0 := Lib.hid (pat_zero w)
  have Hf := Lib.hid hfine
  have Hr := Lib.hid hr
  clear hfine hr hm hc
  go_enter Tryz.func30, Tryz.ntmps30
  go_wp2_with fail
  refine (hct _).mono ?_
  clear hct
  rintro e w1 ⟨a, cap, rfl, htk, hb1⟩
  have hrd := read_walk htk Hf.out.1 Hf.out.2.1 Hf.out.2.2 s.size
  rw [Hr.out] at hrd
  have Hp1 := Lib.hid (show PatIn w1 w.heap.size zeroPat from (hb1.block _ (by simp)).trans Hp0.out)
  have HB1 := Lib.hid (((Below.refl w.heap.size w).alloc (Nat.le_refl _) _).trans (hb1.mono (by simp)))
  clear hb1 htk Hp0
  go_wp2_with fail
  refine hrd.mono ?_
  clear hrd
  rintro e w2 ⟨hb2, rfl⟩
  have hlt := lt_of_block Hp1.out
  have hp2 : ∀ o : Obj, PatIn (w2.alloc o) w.heap.size zeroPat := fun o => (Below.heap_alloc w2 o w.heap.size (Nat.lt_of_lt_of_le hlt hb2.size)).trans ((hb2.block _ hlt).trans Hp1.out)
  have HB2 : Hid (∀ o : Obj, Below w.heap.size w (w2.alloc o)) := fun o => (HB1.out.trans (hb2.mono (Nat.le_of_lt hlt))).alloc (by have := hb2.size; omega) o
  have Hp2 := Lib.hid hp2
  clear hb2 hp2
  go_wp2_with (first
    | (refine wpList_store_pat rfl _ _ rfl w.heap.size zeroPat zeroPat rfl rfl (Hp2.out _) rfl rfl (by simp [Value.oneCell']) ?_; intro w3 hp3 ho3)
    | fail)
  exact bodyPost_ret (results_of rfl _ _ w.heap.size _ rfl hp3 rfl) rfl ⟨rfl, ho3.below (HB2.out _) (Nat.le_refl _)⟩
set_option maxHeartbeats 8000000 in
theorem of_ok {w : World} {s : ByteArray} {T : List TK} (hs : s.size ≤ 1024) (hc : cutAll cls (nats s) = (none, T)) (hm : MaxAt w) (x : Nd) (l : List TK) (g : Nat) (hr : readP s.size T = .ok x l g) :
    Calls Tryz.prog 30 #[.string s] w (OfPost w s.size (if goodP x g then .ok (kindOf T == 7) (endsWith8 (trimStart T)) x g else .err 0 4)) := by
  have hct := fun o : Obj => (cut_toks (w := w.alloc o) hs hc (maxAt_below hm ((Below.refl _ _).alloc (Nat.le_refl _) o))).2
  have hfine := (cut_toks hs hc hm).1
  have Hp0 := Lib.hid (pat_zero w)
  have Hf := Lib.hid hfine
  have Hr := Lib.hid hr
  clear hfine hr hm hc
  obtain ⟨st, hst⟩ : ∃ st, st = (kindOf T == 7) := ⟨_, rfl⟩
  obtain ⟨en, hen⟩ : ∃ en, en = endsWith8 (trimStart T) := ⟨_, rfl⟩
  rw [← hst, ← hen]
  have Hst := Lib.hid hst
  have Hen := Lib.hid hen
  clear hst hen
  cases hg : goodP x g with
  | false =>
    show Calls _ _ _ _ fun e w' => e = .returned (.tuple #[.agg zeroPat, .int .i64 0, .int .i64 4]) ∧ Below w.heap.size w w'
    have Hg := Lib.hid hg
    clear hg
    go_enter Tryz.func30, Tryz.ntmps30
    go_wp2_with fail
    refine (hct _).mono ?_
    clear hct
    rintro e w1 ⟨a, cap, rfl, htk, hb1⟩
    have hrd := read_walk htk Hf.out.1 Hf.out.2.1 Hf.out.2.2 s.size
    rw [Hr.out, ← Hst.out, ← Hen.out] at hrd
    have Hp1 := Lib.hid (show PatIn w1 w.heap.size zeroPat from (hb1.block _ (by simp)).trans Hp0.out)
    have HB1 := Lib.hid (((Below.refl w.heap.size w).alloc (Nat.le_refl _) _).trans (hb1.mono (by simp)))
    clear hb1 htk Hp0
    go_wp2_with fail
    refine hrd.mono ?_
    clear hrd
    rintro e w2 ⟨hb2, cs, rfl, hnf⟩
    have hat := hnf.at
    obtain ⟨kq, sq, loq, hiq, nq, aq, lenq, capq, rfl⟩ := at_lit hat
    simp only [patCells, List.cons_append, List.nil_append]
    have hlt := lt_of_block Hp1.out
    have hp2 : ∀ o : Obj, PatIn (w2.alloc o) w.heap.size zeroPat := fun o => (Below.heap_alloc w2 o w.heap.size (Nat.lt_of_lt_of_le hlt hb2.size)).trans ((hb2.block _ hlt).trans Hp1.out)
    have HB2 : Hid (∀ o : Obj, Below w.heap.size w (w2.alloc o)) := fun o => (HB1.out.trans (hb2.mono (Nat.le_of_lt hlt))).alloc (by have := hb2.size; omega) o
    have H8 : PatIn (w2.alloc (.cells #[.bool st, .bool en, .int .i64 kq, .int .u64 (word sq 0), .int .u64 (word sq 1), .int .u64 (word sq 2), .int .u64 (word sq 3), .int .i64 loq, .int .i64 hiq, .int .i64 nq, .slice aq lenq capq, .int .i64 g] 70)) w2.heap.size _ := World.alloc_heap_new w2 _
    have hgd := fun o : Obj => good_walk st en g (Nd.at_below ((Below.refl w2.heap.size w2).alloc (Nat.le_refl _) o) (Nat.le_refl _) _ _ hat)
    rw [Hg.out] at hgd
    have Hp2 := Lib.hid hp2
    have H8' := Lib.hid H8
    have Hgd := Lib.hid hgd
    clear hb2 hp2 hat H8 hgd hnf
    go_wp2_with (first
      | (refine wpList_load_pat rfl _ rfl w2.heap.size _ rfl H8'.out rfl ?_)
      | (go_at_call 55; refine (Hgd.out _).mono ?_; rintro e w4 ⟨rfl, hb4⟩
         have hw2 : w.heap.size < (w2.alloc (.cells #[.bool st, .bool en, .int .i64 kq, .int .u64 (word sq 0), .int .u64 (word sq 1), .int .u64 (word sq 2), .int .u64 (word sq 3), .int .i64 loq, .int .i64 hiq, .int .i64 nq, .slice aq lenq capq, .int .i64 g] 70)).heap.size := lt_of_block (Hp2.out _)
         have Hp4 := Lib.hid (show PatIn w4 w.heap.size zeroPat from (hb4.block _ hw2).trans (Hp2.out _))
         have HB4 := Lib.hid ((HB2.out _).trans (hb4.mono (Nat.le_of_lt hw2)))
         clear hb4 hw2)
      | (refine wpList_store_pat rfl _ _ rfl w.heap.size zeroPat zeroPat rfl rfl Hp4.out rfl rfl (by simp [Value.oneCell']) ?_; intro w5 hp5 ho5)
      | fail)
    exact bodyPost_ret (results_of rfl _ _ w.heap.size _ rfl hp5 rfl) rfl ⟨rfl, ho5.below HB4.out (Nat.le_refl _)⟩
  | true =>
    show Calls _ _ _ _ fun e w' => ∃ cs : List Value, e = .returned (.tuple #[.agg (patCells st en cs (g : Nat)).toArray, .int .i64 s.size, .int .i64 0]) ∧ Nd.at w' x cs ∧ Below w.heap.size w w'
    have Hg := Lib.hid hg
    clear hg
    go_enter Tryz.func30, Tryz.ntmps30
    go_wp2_with fail
    refine (hct _).mono ?_
    clear hct
    rintro e w1 ⟨a, cap, rfl, htk, hb1⟩
    have hrd := read_walk htk Hf.out.1 Hf.out.2.1 Hf.out.2.2 s.size
    rw [Hr.out, ← Hst.out, ← Hen.out] at hrd
    have Hp1 := Lib.hid (show PatIn w1 w.heap.size zeroPat from (hb1.block _ (by simp)).trans Hp0.out)
    have HB1 := Lib.hid (((Below.refl w.heap.size w).alloc (Nat.le_refl _) _).trans (hb1.mono (by simp)))
    clear hb1 htk Hp0
    go_wp2_with fail
    refine hrd.mono ?_
    clear hrd
    rintro e w2 ⟨hb2, cs, rfl, hnf⟩
    have hat := hnf.at
    obtain ⟨kq, sq, loq, hiq, nq, aq, lenq, capq, rfl⟩ := at_lit hat
    simp only [patCells, List.cons_append, List.nil_append]
    have hlt := lt_of_block Hp1.out
    have hp2 : ∀ o : Obj, PatIn (w2.alloc o) w.heap.size zeroPat := fun o => (Below.heap_alloc w2 o w.heap.size (Nat.lt_of_lt_of_le hlt hb2.size)).trans ((hb2.block _ hlt).trans Hp1.out)
    have HB2 : Hid (∀ o : Obj, Below w.heap.size w (w2.alloc o)) := fun o => (HB1.out.trans (hb2.mono (Nat.le_of_lt hlt))).alloc (by have := hb2.size; omega) o
    have H8 : PatIn (w2.alloc (.cells #[.bool st, .bool en, .int .i64 kq, .int .u64 (word sq 0), .int .u64 (word sq 1), .int .u64 (word sq 2), .int .u64 (word sq 3), .int .i64 loq, .int .i64 hiq, .int .i64 nq, .slice aq lenq capq, .int .i64 g] 70)) w2.heap.size _ := World.alloc_heap_new w2 _
    have hne : w.heap.size < w2.heap.size := Nat.lt_of_lt_of_le hlt hb2.size
    have hgd := fun o : Obj => good_walk st en g (Nd.at_below ((Below.refl w2.heap.size w2).alloc (Nat.le_refl _) o) (Nat.le_refl _) _ _ hat)
    rw [Hg.out] at hgd
    have Hp2 := Lib.hid hp2
    have H8' := Lib.hid H8
    have Hgd := Lib.hid hgd
    have Hnf := Lib.hid hnf
    have Hw1 := Lib.hid hlt
    have Hne := Lib.hid hne
    clear hb2 hp2 hat H8 hgd hne hnf
    go_wp2_with (first
      | (refine wpList_load_pat rfl _ rfl w2.heap.size _ rfl H8'.out rfl ?_)
      | (go_at_call 55; refine (Hgd.out _).mono ?_; rintro e w4 ⟨rfl, hb4⟩
         have hw2 : w.heap.size < (w2.alloc (.cells #[.bool st, .bool en, .int .i64 kq, .int .u64 (word sq 0), .int .u64 (word sq 1), .int .u64 (word sq 2), .int .u64 (word sq 3), .int .i64 loq, .int .i64 hiq, .int .i64 nq, .slice aq lenq capq, .int .i64 g] 70)).heap.size := lt_of_block (Hp2.out _)
         have Hp4 := Lib.hid (show PatIn w4 w.heap.size zeroPat from (hb4.block _ hw2).trans (Hp2.out _))
         have HB4 := Lib.hid ((HB2.out _).trans (hb4.mono (Nat.le_of_lt hw2)))
         have H84 := Lib.hid (show PatIn w4 w2.heap.size _ from (hb4.block _ (by simp)).trans H8'.out)
         have Hb4 := Lib.hid hb4
         clear hb4 hw2)
      | (refine wpList_load_pat rfl _ rfl w2.heap.size _ rfl H84.out rfl ?_)
      | (refine wpList_store_pat rfl _ _ rfl w.heap.size zeroPat #[.bool st, .bool en, .int .i64 kq, .int .u64 (word sq 0), .int .u64 (word sq 1), .int .u64 (word sq 2), .int .u64 (word sq 3), .int .i64 loq, .int .i64 hiq, .int .i64 nq, .slice aq lenq capq, .int .i64 g] rfl rfl Hp4.out rfl rfl (by simp [Value.oneCell']) ?_; intro w5 hp5 ho5)
      | fail)
    refine bodyPost_ret (results_of rfl _ _ w.heap.size _ rfl hp5 rfl) rfl ⟨[.int .i64 kq, .int .u64 (word sq 0), .int .u64 (word sq 1), .int .u64 (word sq 2), .int .u64 (word sq 3), .int .i64 loq, .int .i64 hiq, .int .i64 nq, .slice aq lenq capq], rfl, ?_, ho5.below HB4.out (Nat.le_refl _)⟩
    exact (((Hnf.out.alloc _ (Nat.le_refl _)).below Hb4.out).only ho5 Hw1.out (Nat.le_refl _)).at
/-- Of, whole -/
theorem of_walk (s : ByteArray) (w : World) (hm : MaxAt w) : Calls Tryz.prog 30 #[.string s] w (OfPost w s.size (ofP cls (nats s))) := by
  unfold ofP
  rw [nats_length]
  by_cases hs : 1024 < s.size
  · rw [if_pos hs]
    exact of_cut 1024 4 (by decide) (fun o => cut_large s hs _)
  · rw [if_neg hs]
    cases hc : cutAll cls (nats s) with
    | mk e T =>
      cases e with
      | some p =>
        show Calls _ _ _ _ fun e w' => e = .returned (.tuple #[.agg zeroPat, .int .i64 (p.1 : Nat), .int .i64 (p.2 : Nat)]) ∧ Below w.heap.size w w'
        have hp := cut_err cls _ _ _ p (show (cutFrom cls _ 0 (nats s)).1 = some p from by rw [show cutFrom cls ((nats s).length + 1) 0 (nats s) = cutAll cls (nats s) from rfl, hc])
        exact of_cut (p.1 : Nat) (p.2 : Nat) (by simp; omega) (fun o => cut_refused s (by omega) p T hc _ (maxAt_below hm ((Below.refl _ _).alloc (Nat.le_refl _) o)))
      | none =>
        show Calls _ _ _ _ (OfPost w s.size (ofTokens s.size T))
        unfold ofTokens
        cases hr : readP s.size T with
        | bad k => exact of_bad (by omega) hc hm k hr
        | ok x l g => exact of_ok (by omega) hc hm x l g hr
/-! Law 6's awake. -/
/-! What the laws on whole texts lean on: texts put together, patterns in memory, errors. -/
theorem nats_add (x y : ByteArray) : nats (x ++ y) = nats x ++ nats y := by
  unfold nats
  rw [ByteArray.data_append, Array.toList_append, List.map_append]
theorem size_of_nats {x : ByteArray} {l : List Nat} (h : nats x = l) : x.size = l.length := by rw [← h, nats_length]
theorem err_some (n : Int) (T : List TK) (k e : Int) (h : ofTokens n T = .err k e) : e = 2 ∨ e = 4 := by
  unfold ofTokens at h
  split at h
  · cases h; exact .inl rfl
  · split at h
    · cases h
    · cases h; exact .inr rfl
theorem of_err {q : List Nat} {k e : Int} (h : ofP cls q = .err k e) : ¬ e = 0 := by
  unfold ofP at h
  split at h
  · cases h; decide
  · split at h
    · rename_i p T hc
      cases h
      have := cut_err cls _ _ _ p (show (cutFrom cls (q.length + 1) 0 q).1 = some p from by rw [show cutFrom cls (q.length + 1) 0 q = cutAll cls q from rfl, hc])
      omega
    · rcases err_some _ _ _ _ h with rfl | rfl <;> decide
theorem node9_pat {w : World} {b : Nat} {x0 x1 c0 c1 c2 c3 c4 c5 c6 c7 c8 y : Value} (h : PatIn w b #[x0, x1, c0, c1, c2, c3, c4, c5, c6, c7, c8, y]) : Node9 w b 2 [c0, c1, c2, c3, c4, c5, c6, c7, c8] := by
  refine ⟨rfl, fun q hq => ?_⟩
  rw [cells_at h]
  have hq' : q = 0 ∨ q = 1 ∨ q = 2 ∨ q = 3 ∨ q = 4 ∨ q = 5 ∨ q = 6 ∨ q = 7 ∨ q = 8 := by omega
  rcases hq' with rfl | rfl | rfl | rfl | rfl | rfl | rfl | rfl | rfl <;> rfl
theorem pat_groups {w : World} {b : Nat} {x0 x1 c0 c1 c2 c3 c4 c5 c6 c7 c8 y : Value} (h : PatIn w b #[x0, x1, c0, c1, c2, c3, c4, c5, c6, c7, c8, y]) : w.cell? ⟨b, 11, none⟩ = some y := by rw [cells_at h]; rfl
theorem pat_new (w : World) (cs : Array Value) : PatIn (w.alloc (.cells cs 70)) w.heap.size cs := World.alloc_heap_new w _
theorem pat_keep {w w' : World} {b : Nat} {cs : Array Value} (h : PatIn w b cs) (hb : Below w.heap.size w w') : PatIn w' b cs := (hb.block b (lt_of_block h)).trans h
/-! Lists of nodes that lie in memory, appended. -/
theorem nodesAt_pairs (w : World) (b : Nat) : ∀ (L : List Nd) (off : Nat), nodesAt w L b off → ∃ P : List (Nd × List Value), P.map (·.1) = L ∧ (∀ p ∈ P, Nd.at w p.1 p.2) ∧ ∀ q, q < L.length * 9 → w.cell? ⟨b, off + q, none⟩ = (P.flatMap (·.2))[q]?
  | [], off, _ => ⟨[], rfl, (fun p hp => by cases hp), (fun q hq => by simp at hq)⟩
  | x :: L, off, h => by
    rw [nodesAt_cons] at h
    obtain ⟨⟨cs, h1, h2, h3⟩, h4⟩ := h
    obtain ⟨P, g1, g2, g3⟩ := nodesAt_pairs w b L (off + 9) h4
    refine ⟨(x, cs) :: P, by rw [List.map_cons, g1], ?_, fun q hq => ?_⟩
    · intro p hp
      rcases List.mem_cons.1 hp with rfl | hp
      · exact h3
      · exact g2 p hp
    · rw [List.flatMap_cons]
      by_cases hq9 : q < 9
      · rw [List.getElem?_append_left (by show q < cs.length; omega)]; exact h2 q hq9
      · rw [List.getElem?_append_right (by show cs.length ≤ q; omega), show (x, cs).2.length = 9 from h1]
        have := g3 (q - 9) (by simp at hq; omega)
        rw [← this]
        congr 2
        omega
theorem pairs_length {P : List (Nd × List Value)} {w : World} (h : ∀ p ∈ P, Nd.at w p.1 p.2) : (P.flatMap (·.2)).length = P.length * 9 := by
  induction P with
  | nil => rfl
  | cons p P ih =>
    rw [List.flatMap_cons, List.length_append, ih (fun q hq => h q (by simp [hq])), at_len (h p (by simp)), List.length_cons]
    omega
theorem wpList_append_list {ops : Array Oper} {rest : List Oper} {o : Oper} {a : Act} {w : World} {Q : Exit → Act → World → Prop} (hgd : o.guard = none) (s x : Operand)
    (ho : o.op = .call { callee := .builtin .append, args := #[s, x], argTypes := #[37, 37] }) (base : Nat) (v : Value) (n : Nat) (xs : List Value) (hs : a.eval s = v)
    (hown : w.ownsRow base 39 9 v n xs) (b off m c : Nat) (P : List (Nd × List Value)) (hx : a.eval x = .slice (some ⟨b, off, none⟩) m c) (hm : m = P.length) (hP : ∀ p ∈ P, Nd.at w p.1 p.2)
    (hc : ∀ q, q < P.length * 9 → w.cell? ⟨b, off + q, none⟩ = (P.flatMap (·.2))[q]?) (hn : n + m < 1000000000000) (hbase : base ≤ w.heap.size)
    (h : ∀ v' w', w'.ownsRow base 39 9 v' (n + m) (xs ++ P.flatMap (·.2)) → w.grownBy w' v.ownBlock → wpList Tryz.prog ops Q rest (a.put o.dst v') w') : wpList Tryz.prog ops Q (o :: rest) a w := by
  obtain ⟨i0, hi, hz0, hz1, hz2⟩ := info_parts info_node
  have hl := pairs_length hP
  refine wpList_append_own w hgd s x _ ho base 39 i0 zeroNode 9 88 Tryz.underlying37 hi hz0 hz1 hz2 rfl (by decide) v n xs hs hown ⟨b, off, none⟩ m c (P.flatMap (·.2)) hx (by rw [hl, hm]) ?_ ?_ (by unfold maxLen; omega) (by omega) hbase ?_
  · intro j u hj
    have hjl : j < P.length * 9 := by rw [← hl]; exact (List.getElem?_eq_some_iff.1 hj).1
    rw [addr_at, hc j hjl, hj]
  · intro u hu
    obtain ⟨p, hp, hu⟩ := List.mem_flatMap.1 hu
    exact at_cell_one (hP p hp) u hu
  · intro v' w' g1 g2 _
    exact h v' w' g1 g2
theorem owns_slice {w : World} {base n : Nat} {v : Value} {xs : List Value} (h : w.ownsRow base 39 9 v n xs) (h0 : 0 < n) : ∃ g cap, v = .slice (some ⟨g, 0, none⟩) n cap := by
  rcases h.2 with ⟨_, h1⟩ | ⟨g, cap, _, rfl, _⟩
  · omega
  · exact ⟨g, cap, rfl⟩
theorem grown_below {base : Nat} {w w1 w' : World} {v : Value} {n : Nat} {xs : List Value} (hb : Below base w w1) (hown : w1.ownsRow base 39 9 v n xs) (hg : w1.grownBy w' v.ownBlock) (hs : base ≤ w1.heap.size) : Below base w w' :=
  hb.trans ⟨hg.os, hg.tape, hg.output, hg.size, fun k hk => hg.block k (by omega) (fun e => by have := (hown.lt k e.symm).1; omega)⟩
theorem length_counts : ∀ l : List Nd, l.length ≤ counts l
  | [] => Nat.zero_le _
  | x :: l => by
    unfold counts
    have := Nd.count_pos x
    have := length_counts l
    simp only [List.length_cons]
    omega
theorem nodes_few {x : Nd} {g : Int} (h : goodP x g = true) : x.nodes.length ≤ 2000 := by
  have h1 := (good_size h).1
  cases x with
  | mk k s lo hi n l =>
    rw [count_mk] at h1
    have := length_counts l
    show l.length ≤ 2000
    omega
theorem at_row3 {w : World} {x : Nd} {cs : List Value} (h : Nd.at w x cs) (hl : x.nodes ≠ []) : ∃ (s : BitVec 256) (lo hi n : Int) (b off cap : Nat), cs = [.int .i64 x.kind, .int .u64 (word s 0), .int .u64 (word s 1), .int .u64 (word s 2), .int .u64 (word s 3), .int .i64 lo, .int .i64 hi, .int .i64 n, .slice (some ⟨b, off, none⟩) x.nodes.length cap] ∧ b < w.heap.size ∧ nodesAt w x.nodes b off := by
  cases x with
  | mk k s lo hi n l =>
    rw [at_mk] at h
    obtain ⟨_, _, _, _, a, cap, rfl, _, h7⟩ := h
    rcases h7 with h7 | ⟨b, off, rfl, _, h8, h9⟩
    · exact absurd (List.length_eq_zero_iff.1 h7) hl
    · exact ⟨s, lo, hi, n, b, off, cap, rfl, h8, h9⟩
/-- the row of a pattern's alternatives is in memory, node by node -/
theorem at_rows {w : World} {base : Nat} {v : Value} {n : Nat} (P : List (Nd × List Value)) (hP : ∀ p ∈ P, Nd.at w p.1 p.2) (hn : n = P.length) (h0 : 0 < n) (h : w.ownsRow base 39 9 v n (P.flatMap (·.2))) (g cap : Nat) (hv : v = .slice (some ⟨g, 0, none⟩) n cap) :
    Nd.at w (.mk 3 0 0 0 0 (P.map (·.1))) [.int .i64 3, .int .u64 0, .int .u64 0, .int .u64 0, .int .u64 0, .int .i64 0, .int .i64 0, .int .i64 0, .slice (some ⟨g, 0, none⟩) n cap] := by
  obtain ⟨g', cap', e, _, h2, h3, h4, h5⟩ := nodesAt_owns P hP hn h0 h
  rw [hv] at e
  injection e with e1 _ e3
  cases e1
  subst e3
  rw [at_mk]
  refine ⟨by rfl, by rfl, by rfl, by rfl, some ⟨g, 0, none⟩, cap, ?_, by rw [List.length_map, ← hn]; exact h4, .inr ⟨g, 0, rfl, by rw [List.length_map, ← hn]; exact h3, h2, h5⟩⟩
  rw [word_zero, word_zero, word_zero, word_zero, List.length_map, ← hn]
  rfl
theorem of_row_ne {q : List Nat} {x : Nd} {g : Nat} (h : ofP cls q = .ok false false x g) : rowOf x ≠ [] ∧ goodP x g = true := by
  obtain ⟨T, xs, _, _, _, _, _, _, hxs, rfl, hg⟩ := of_plain h
  obtain ⟨e, hn⟩ := rowOf_rows hxs
  exact ⟨by rw [e]; exact hn, hg⟩
end Go.Proofs.YtlgpbgcheeaalaaGreatDoor
