/- How the nodes of a node, one behind the other in the order in which they begin, tell whether it is as P5.1 says. -/
import Derived.Test.YtddbheoncbphhaaTreeFormed
import Derived.Test.YtddbheoncbphhaaTreeVisit
namespace Go.Proofs.Ytddbheoncbphhaa
set_option maxRecDepth 100000
open Go.RowKit
/-- one node of the row; next: the number of the group that comes -/
def stepN (next : Nat) : Nd → Option Nat
  | .mk k s lo hi n l => if (blankN k s lo hi n && formedN k s lo hi l) = true then (if k = 5 then (if n = (next : Int) then some (next + 1) else none) else some next) else none
theorem stepN_mk (next : Nat) (k : Int) (s : BitVec 256) (lo hi n : Int) (l : List Nd) : stepN next (.mk k s lo hi n l) = if (blankN k s lo hi n && formedN k s lo hi l) = true then (if k = 5 then (if n = (next : Int) then some (next + 1) else none) else some next) else none := rfl
def foldN : List Nd → Nat → Option Nat
  | [], next => some next
  | x :: l, next => (stepN next x).bind (foldN l)
theorem foldN_append (l m : List Nd) (next : Nat) : foldN (l ++ m) next = (foldN l next).bind (foldN m) := by
  induction l generalizing next with
  | nil => rfl
  | cons x l ih =>
    show (stepN next x).bind (foldN (l ++ m)) = ((stepN next x).bind (foldN l)).bind (foldN m)
    cases stepN next x with
    | none => rfl
    | some y => exact ih y
theorem foldN_prefix {l m : List Nd} {next : Nat} (h : l <+: m) (hn : foldN l next = none) : foldN m next = none := by
  obtain ⟨r, rfl⟩ := h
  rw [foldN_append, hn]; rfl
/-- a node behind a node, by P5.1's own words -/
def formAll : List Nd → Nat → Option Nat
  | [], next => some next
  | x :: l, next => (x.form next).bind (formAll l)
def strictK (k : Int) (l : List Nd) : Bool := if k = 2 then l.all (fun y => pieceK y.kind) else if k = 3 then l.all (fun y => branchK y.kind) else if k = 4 then l.all (fun y => atomK y.kind) else true
theorem forms_strict (k : Int) (f : Int → Bool) (hf : ∀ c, f c = true → within k c = true) : ∀ (l : List Nd) (next : Nat), l.all (fun y => f y.kind) = true → forms k l next = formAll l next
  | [], next, _ => by rw [forms_nil]; rfl
  | x :: l, next, h => by
    rw [List.all_cons, Bool.and_eq_true] at h
    rw [forms_cons, if_pos (hf _ h.1)]
    show _ = (x.form next).bind (formAll l)
    cases x.form next with
    | none => rfl
    | some y => exact forms_strict k f hf l y h.2
theorem forms_none (k : Int) : ∀ (l : List Nd) (next : Nat) (c : Nd), c ∈ l → (within k c.kind = false ∨ ∀ nx, c.form nx = none) → forms k l next = none
  | [], _, _, h, _ => by simp at h
  | x :: l, next, c, h, hc => by
    rw [forms_cons]
    split
    · rename_i hw
      rcases List.mem_cons.mp h with rfl | h
      · rcases hc with hc | hc
        · rw [hc] at hw; cases hw
        · rw [hc]; rfl
      · cases x.form next with
        | none => rfl
        | some y => exact forms_none k l y c h hc
    · rfl
theorem form_kind (x : Nd) (h : x.kind ≠ 1 ∧ x.kind ≠ 2 ∧ x.kind ≠ 3 ∧ x.kind ≠ 4 ∧ x.kind ≠ 5 ∧ x.kind ≠ 6) (nx : Nat) : x.form nx = none := by
  cases x with
  | mk k s lo hi n l =>
    obtain ⟨h1, h2, h3, h4, h5, h6⟩ := (show k ≠ 1 ∧ k ≠ 2 ∧ k ≠ 3 ∧ k ≠ 4 ∧ k ≠ 5 ∧ k ≠ 6 from h)
    rw [form_mk, if_neg]
    simp [fieldsOk, h1, h2, h3, h4, h5, h6]
theorem forms_loose (k : Int) (f : Int → Bool) (hf : ∀ c, f c = false → within k c = false ∨ (c ≠ 1 ∧ c ≠ 2 ∧ c ≠ 3 ∧ c ≠ 4 ∧ c ≠ 5 ∧ c ≠ 6)) (l : List Nd) (next : Nat) (h : l.all (fun y => f y.kind) = false) : forms k l next = none := by
  rw [List.all_eq_false] at h
  obtain ⟨c, hc, hv⟩ := h
  refine forms_none k l next c hc ?_
  rcases hf c.kind (by simpa using hv) with h | h
  · exact .inl h
  · exact .inr (form_kind c h)
theorem forms_kids (k : Int) (l : List Nd) (next : Nat) : forms k l next = if strictK k l = true then formAll l next else none := by
  unfold strictK
  by_cases h2 : k = 2
  · subst h2
    rw [if_pos rfl]
    split
    · rename_i h; exact forms_strict 2 pieceK (fun c h => by simp only [pieceK, atomK, Bool.or_eq_true, beq_iff_eq] at h; simp [within]; omega) l next h
    · rename_i h
      exact forms_loose 2 pieceK (fun c h => by simp only [pieceK, atomK, Bool.or_eq_false_iff, beq_eq_false_iff_ne] at h; simp [within]; omega) l next (by simpa using h)
  rw [if_neg h2]
  by_cases h3 : k = 3
  · subst h3
    rw [if_pos rfl]
    split
    · rename_i h; exact forms_strict 3 branchK (fun c h => by simp only [branchK, pieceK, atomK, Bool.or_eq_true, beq_iff_eq] at h; simp [within]; omega) l next h
    · rename_i h
      exact forms_loose 3 branchK (fun c h => by simp only [branchK, pieceK, atomK, Bool.or_eq_false_iff, beq_eq_false_iff_ne] at h; simp [within]; omega) l next (by simpa using h)
  rw [if_neg h3]
  by_cases h4 : k = 4
  · subst h4
    rw [if_pos rfl]
    split
    · rename_i h; exact forms_strict 4 atomK (fun c h => by simp only [atomK, Bool.or_eq_true, beq_iff_eq] at h; simp [within]; omega) l next h
    · rename_i h
      exact forms_loose 4 atomK (fun c h => by simp only [atomK, Bool.or_eq_false_iff, beq_eq_false_iff_ne] at h; simp [within]; omega) l next (by simpa using h)
  rw [if_neg h4, if_pos rfl]
  exact forms_strict k (fun _ => true) (fun c _ => by simp [within, h2, h3, h4]) l next (by simp)
/-- P5.1's own words of a node, and the program's two -/
theorem fields_split (k : Int) (s : BitVec 256) (lo hi n : Int) (l : List Nd) (next : Nat) :
    (fieldsOk k s lo hi n l.length next && strictK k l) = (blankN k s lo hi n && formedN k s lo hi l && (if k = 5 then decide (n = (next : Int)) else true)) := by
  unfold fieldsOk strictK blankN formedN boundedN
  by_cases h1 : k = 1
  · subst h1; simp
  by_cases h2 : k = 2
  · subst h2; simp [Bool.and_assoc]
  by_cases h3 : k = 3
  · subst h3; simp [Bool.and_assoc]
  by_cases h4 : k = 4
  · subst h4
    simp [Bool.and_assoc]
    cases decide (l.length = 1) <;> simp [Bool.and_comm, Bool.and_left_comm]
  by_cases h5 : k = 5
  · subst h5; simp [Bool.and_assoc]
    rw [show (n == (next : Int)) = decide (n = (next : Int)) from by rw [Bool.eq_iff_iff]; simp]
  by_cases h6 : k = 6
  · subst h6; simp
  simp [h1, h2, h3, h4, h5, h6]
mutual
theorem fold_pre : ∀ (x : Nd) (next : Nat), foldN x.pre next = x.form next
  | .mk k s lo hi n l, next => by
    rw [pre_mk, form_mk]
    show (stepN next (.mk k s lo hi n l)).bind (foldN (pres l)) = _
    have hs := fields_split k s lo hi n l next
    rw [forms_kids]
    rw [stepN_mk]
    by_cases hb : (blankN k s lo hi n && formedN k s lo hi l) = true
    · rw [if_pos hb]
      rw [hb, Bool.true_and] at hs
      by_cases h5 : k = 5
      · rw [if_pos h5, if_pos h5]
        rw [if_pos h5] at hs
        by_cases hn : n = (next : Int)
        · rw [if_pos hn]
          rw [decide_eq_true hn, Bool.and_eq_true] at hs
          rw [if_pos hs.1, if_pos hs.2]
          exact fold_pres l _
        · rw [if_neg hn]
          rw [decide_eq_false hn] at hs
          split
          · rename_i h; rw [h, Bool.true_and] at hs; rw [if_neg (by rw [hs]; simp)]; rfl
          · rfl
      · rw [if_neg h5, if_neg h5]
        rw [if_neg h5, Bool.and_eq_true] at hs
        rw [if_pos hs.1, if_pos hs.2]
        exact fold_pres l _
    · rw [if_neg hb]
      rw [Bool.eq_false_iff.mpr hb, Bool.false_and] at hs
      split
      · rename_i h; rw [h, Bool.true_and] at hs; rw [if_neg (by rw [hs]; simp)]; rfl
      · rfl
theorem fold_pres : ∀ (l : List Nd) (next : Nat), foldN (pres l) next = formAll l next
  | [], next => by rw [pres_nil]; rfl
  | x :: l, next => by
    rw [pres_cons, foldN_append, fold_pre x next]
    show (x.form next).bind _ = (x.form next).bind (formAll l)
    congr 1
    funext y
    exact fold_pres l y
end
end Go.Proofs.Ytddbheoncbphhaa
