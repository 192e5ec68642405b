/- The plain mathematics of package lang: valid cores kind by kind, the words that a core matches, what they have in common, whether one is among them. -/
import Derived.Test.YtobhjfhmhhahoaaCoreMath
namespace Go.Proofs.Ytobhjfhmhhahoaa
namespace K
set_option maxRecDepth 100000
open Go.RowKit

/-! valid cores, kind by kind -/
theorem form_ind {P : Cr → Prop} (hno : P (.mk 0 0 0 [])) (hem : P (.mk 1 0 0 [])) (hst : ∀ s, P (.mk 2 s 0 []))
    (hcat : ∀ a b : Cr, a.form = true → b.form = true → P a → P b → P (.mk 3 0 0 [a, b]))
    (halt : ∀ a b : Cr, a.form = true → b.form = true → P a → P b → P (.mk 4 0 0 [a, b]))
    (hstar : ∀ a : Cr, a.form = true → P a → P (.mk 5 0 0 [a]))
    (hgrp : ∀ (n : Int) (a : Cr), 1 ≤ n → n ≤ 32 → a.form = true → P a → P (.mk 6 0 n [a]))
    (hren : ∀ a : Cr, a.form = true → P a → P (.mk 7 0 0 [a])) : ∀ x : Cr, x.form = true → P x := by
  have main : ∀ (m : Nat) (x : Cr), x.count ≤ m → x.form = true → P x := by
    intro m
    induction m with
    | zero => intro x hx; have := Cr.count_pos x; omega
    | succ m ih =>
      intro x hx hf
      obtain ⟨k, s, n, l⟩ := x
      rw [form_mk, Bool.and_eq_true] at hf
      obtain ⟨hp, hl⟩ := hf
      rw [count_mk] at hx
      have one : ∀ a : Cr, l = [a] → a.form = true ∧ P a := by
        intro a e
        subst e
        rw [forms_cons, Bool.and_eq_true] at hl
        rw [counts_cons] at hx
        exact ⟨hl.1, ih a (by omega) hl.1⟩
      have two : ∀ a b : Cr, l = [a, b] → (a.form = true ∧ P a) ∧ b.form = true ∧ P b := by
        intro a b e
        subst e
        rw [forms_cons, forms_cons, Bool.and_eq_true, Bool.and_eq_true] at hl
        rw [counts_cons, counts_cons] at hx
        exact ⟨⟨hl.1, ih a (by omega) hl.1⟩, hl.2.1, ih b (by omega) hl.2.1⟩
      unfold partOk at hp
      simp only [Bool.and_eq_true, Bool.or_eq_true, beq_iff_eq, decide_eq_true_eq] at hp
      obtain ⟨⟨h2, h6⟩, hk⟩ := hp
      by_cases c1 : k = 0 ∨ k = 1 ∨ k = 2
      · rw [if_pos c1, decide_eq_true_eq] at hk
        obtain rfl : l = [] := List.length_eq_zero_iff.1 hk
        obtain rfl : n = 0 := by rcases h6 with h | h <;> omega
        rcases c1 with rfl | rfl | rfl
        · obtain rfl : s = 0 := by rcases h2 with h | h; · omega
                                   · exact h
          exact hno
        · obtain rfl : s = 0 := by rcases h2 with h | h; · omega
                                   · exact h
          exact hem
        · exact hst s
      rw [if_neg c1] at hk
      obtain rfl : s = 0 := by
        rcases h2 with h | h
        · exact absurd (Or.inr (Or.inr h)) c1
        · exact h
      by_cases c2 : k = 3 ∨ k = 4
      · rw [if_pos c2, decide_eq_true_eq] at hk
        obtain ⟨a, b, rfl⟩ : ∃ a b, l = [a, b] := by
          match l, hk with
          | [a, b], _ => exact ⟨a, b, rfl⟩
        obtain ⟨⟨fa, pa⟩, fb, pb⟩ := two a b rfl
        obtain rfl : n = 0 := by rcases h6 with h | h <;> omega
        rcases c2 with rfl | rfl
        · exact hcat a b fa fb pa pb
        · exact halt a b fa fb pa pb
      rw [if_neg c2] at hk
      by_cases c3 : k = 5 ∨ k = 7
      · rw [if_pos c3, decide_eq_true_eq] at hk
        obtain ⟨a, rfl⟩ := List.length_eq_one_iff.1 hk
        obtain ⟨fa, pa⟩ := one a rfl
        obtain rfl : n = 0 := by rcases h6 with h | h <;> omega
        rcases c3 with rfl | rfl
        · exact hstar a fa pa
        · exact hren a fa pa
      rw [if_neg c3] at hk
      by_cases c4 : k = 6
      · rw [if_pos c4] at hk
        simp only [Bool.and_eq_true, decide_eq_true_eq] at hk
        obtain ⟨⟨h1, h3⟩, h4⟩ := hk
        obtain ⟨a, rfl⟩ := List.length_eq_one_iff.1 h1
        obtain ⟨fa, pa⟩ := one a rfl
        subst c4
        exact hgrp n a h3 h4 fa pa
      · rw [if_neg c4] at hk; cases hk
  exact fun x hx => main x.count x (Nat.le_refl _) hx

/-! the words that a core matches -/
inductive Stars (p : List Nat → Prop) : List Nat → Prop
  | nil : Stars p []
  | app {u v : List Nat} : p u → Stars p v → Stars p (u ++ v)
def noWord : List Nat → Prop := fun _ => False
def langOf (k : Int) (s : BitVec 256) (p q : List Nat → Prop) (w : List Nat) : Prop :=
  if k = 1 then w = [] else if k = 2 then ∃ b, b < 256 ∧ s.getLsbD b = true ∧ w = [b]
  else if k = 3 then ∃ u v, w = u ++ v ∧ p u ∧ q v else if k = 4 then p w ∨ q w
  else if k = 5 then Stars p w else if k = 6 ∨ k = 7 then p w else False
mutual
def Cr.lang : Cr → List Nat → Prop
  | .mk k s _ l => langOf k s ((langs l).getD 0 noWord) ((langs l).getD 1 noWord)
def langs : List Cr → List (List Nat → Prop)
  | [] => []
  | x :: l => x.lang :: langs l
end
theorem lang_mk (k : Int) (s : BitVec 256) (n : Int) (l : List Cr) (w : List Nat) : (Cr.mk k s n l).lang w = langOf k s ((langs l).getD 0 noWord) ((langs l).getD 1 noWord) w := by rw [Cr.lang]
theorem langs_one (a : Cr) : (langs [a]).getD 0 noWord = a.lang := by rw [langs]; rfl
theorem langs_two (a b : Cr) : (langs [a, b]).getD 0 noWord = a.lang ∧ (langs [a, b]).getD 1 noWord = b.lang := by rw [langs, langs]; exact ⟨rfl, rfl⟩
theorem lang_no (w : List Nat) : (Cr.mk 0 0 0 []).lang w ↔ False := by rw [lang_mk]; simp [langOf]
theorem lang_em (w : List Nat) : (Cr.mk 1 0 0 []).lang w ↔ w = [] := by rw [lang_mk]; simp [langOf]
theorem lang_st (s : BitVec 256) (w : List Nat) : (Cr.mk 2 s 0 []).lang w ↔ ∃ b, b < 256 ∧ s.getLsbD b = true ∧ w = [b] := by rw [lang_mk]; simp [langOf]
theorem lang_cat (a b : Cr) (w : List Nat) : (Cr.mk 3 0 0 [a, b]).lang w ↔ ∃ u v, w = u ++ v ∧ a.lang u ∧ b.lang v := by
  rw [lang_mk, (langs_two a b).1, (langs_two a b).2]; simp [langOf]
theorem lang_alt (a b : Cr) (w : List Nat) : (Cr.mk 4 0 0 [a, b]).lang w ↔ a.lang w ∨ b.lang w := by
  rw [lang_mk, (langs_two a b).1, (langs_two a b).2]; simp [langOf]
theorem lang_star (a : Cr) (w : List Nat) : (Cr.mk 5 0 0 [a]).lang w ↔ Stars a.lang w := by
  rw [lang_mk, langs_one]; simp [langOf]
theorem lang_grp (n : Int) (a : Cr) (w : List Nat) : (Cr.mk 6 0 n [a]).lang w ↔ a.lang w := by
  rw [lang_mk, langs_one]; simp [langOf]
theorem lang_ren (a : Cr) (w : List Nat) : (Cr.mk 7 0 0 [a]).lang w ↔ a.lang w := by
  rw [lang_mk, langs_one]; simp [langOf]
theorem Stars.cons_iff {p : List Nat → Prop} {b : Nat} {w : List Nat} : Stars p (b :: w) ↔ ∃ u v, w = u ++ v ∧ p (b :: u) ∧ Stars p v := by
  constructor
  · intro h
    generalize hx : b :: w = x at h
    induction h with
    | nil => cases hx
    | @app u v hu hv ih =>
      cases u with
      | nil => exact ih hx
      | cons c u =>
        simp only [List.cons_append, List.cons.injEq] at hx
        obtain ⟨rfl, rfl⟩ := hx
        exact ⟨u, v, rfl, hu, hv⟩
  · rintro ⟨u, v, rfl, hu, hv⟩
    exact Stars.app (u := b :: u) hu hv
theorem Stars.one {p : List Nat → Prop} {w : List Nat} (h : p w) : Stars p w := by
  have := Stars.app h Stars.nil
  rwa [List.append_nil] at this
theorem Stars.trans {p : List Nat → Prop} {u v : List Nat} (h : Stars p u) (k : Stars p v) : Stars p (u ++ v) := by
  induction h with
  | nil => exact k
  | app hu _ ih => rw [List.append_assoc]; exact Stars.app hu ih
theorem Stars.flat {p : List Nat → Prop} {u : List Nat} (h : Stars (Stars p) u) : Stars p u := by
  induction h with
  | nil => exact .nil
  | app hu _ ih => exact hu.trans ih
/-- words are of bytes -/
theorem lang_bytes : ∀ x : Cr, x.form = true → ∀ w, x.lang w → ∀ b ∈ w, b < 256 := by
  refine form_ind ?_ ?_ ?_ ?_ ?_ ?_ ?_ ?_
  · intro w h; rw [lang_no] at h; exact h.elim
  · intro w h; rw [lang_em] at h; subst h; simp
  · intro s w h
    rw [lang_st] at h
    obtain ⟨b, hb, _, rfl⟩ := h
    simpa using hb
  · intro a b _ _ iha ihb w h
    rw [lang_cat] at h
    obtain ⟨u, v, rfl, hu, hv⟩ := h
    intro c hc
    rcases List.mem_append.1 hc with hc | hc
    · exact iha u hu c hc
    · exact ihb v hv c hc
  · intro a b _ _ iha ihb w h
    rw [lang_alt] at h
    rcases h with h | h
    · exact iha w h
    · exact ihb w h
  · intro a _ iha w h
    rw [lang_star] at h
    induction h with
    | nil => simp
    | app hu _ ih =>
      intro c hc
      rcases List.mem_append.1 hc with hc | hc
      · exact iha _ hu c hc
      · exact ih c hc
  · intro n a _ _ _ iha w h; rw [lang_grp] at h; exact iha w h
  · intro a _ iha w h; rw [lang_ren] at h; exact iha w h

/-! what its words have in common -/
structure Tr where
  some : Bool
  null : Bool
  first : BitVec 256
def Tr.no : Tr := ⟨false, false, 0⟩
def Tr.thn (t u : Tr) : Tr := if (t.some && u.some) = true then ⟨true, t.null && u.null, if t.null = true then t.first ||| u.first else t.first⟩ else .no
def Tr.orr (t u : Tr) : Tr := ⟨t.some || u.some, t.null || u.null, t.first ||| u.first⟩
def trOf (k : Int) (s : BitVec 256) (t u : Tr) : Tr :=
  if k = 1 then ⟨true, true, 0⟩ else if k = 2 then ⟨!decide (s = 0), false, s⟩ else if k = 3 then t.thn u else if k = 4 then t.orr u
  else if k = 5 then ⟨true, true, t.first⟩ else if k = 6 ∨ k = 7 then t else .no
mutual
def Cr.tr : Cr → Tr
  | .mk k s _ l => trOf k s ((trs l).getD 0 .no) ((trs l).getD 1 .no)
def trs : List Cr → List Tr
  | [] => []
  | x :: l => x.tr :: trs l
end
theorem tr_mk (k : Int) (s : BitVec 256) (n : Int) (l : List Cr) : (Cr.mk k s n l).tr = trOf k s ((trs l).getD 0 .no) ((trs l).getD 1 .no) := by rw [Cr.tr]
theorem trs_one (a : Cr) : (trs [a]).getD 0 .no = a.tr := by rw [trs]; rfl
theorem trs_two (a b : Cr) : (trs [a, b]).getD 0 .no = a.tr ∧ (trs [a, b]).getD 1 .no = b.tr := by rw [trs, trs]; exact ⟨rfl, rfl⟩
def TrOk (x : Cr) : Prop := (x.tr.some = true ↔ ∃ w, x.lang w) ∧ (x.tr.null = true ↔ x.lang []) ∧ ∀ b, b < 256 → (x.tr.first.getLsbD b = true ↔ ∃ w, x.lang (b :: w))
theorem set_some (s : BitVec 256) : s ≠ 0 ↔ ∃ b, b < 256 ∧ s.getLsbD b = true := by
  constructor
  · intro h
    apply Classical.byContradiction
    intro hn
    apply h
    apply BitVec.eq_of_getLsbD_eq
    intro i hi
    cases hb : s.getLsbD i with
    | false => simp
    | true => exact absurd ⟨i, hi, hb⟩ hn
  · rintro ⟨b, _, hb⟩ rfl
    simp at hb
theorem tr_ok : ∀ x : Cr, x.form = true → TrOk x := by
  refine form_ind ?_ ?_ ?_ ?_ ?_ ?_ ?_ ?_
  · have e : (Cr.mk 0 0 0 []).tr = .no := by rw [tr_mk]; simp [trOf]
    unfold TrOk
    rw [e]
    refine ⟨⟨fun h => (by simp [Tr.no] at h), fun ⟨w, h⟩ => ((lang_no w).1 h).elim⟩, ⟨fun h => (by simp [Tr.no] at h), fun h => ((lang_no _).1 h).elim⟩, fun b _ => ⟨fun h => (by simp [Tr.no] at h), fun ⟨w, h⟩ => ((lang_no _).1 h).elim⟩⟩
  · have e : (Cr.mk 1 0 0 []).tr = ⟨true, true, 0⟩ := by rw [tr_mk]; simp [trOf]
    unfold TrOk
    rw [e]
    refine ⟨⟨fun _ => ⟨[], (lang_em []).2 rfl⟩, fun _ => rfl⟩, ⟨fun _ => (lang_em []).2 rfl, fun _ => rfl⟩, fun b _ => ⟨fun h => (by simp at h), fun ⟨w, h⟩ => (by have := (lang_em _).1 h; simp at this)⟩⟩
  · intro s
    refine ⟨?_, ?_, ?_⟩
    · simp only [tr_mk, trOf, lang_st]
      have h := set_some s
      simp only [ne_eq] at h
      simp only [show (2 : Int) = 1 ↔ False from by decide, if_false, if_true, Bool.not_eq_true', decide_eq_false_iff_not, h]
      constructor
      · rintro ⟨b, h1, h2⟩; exact ⟨[b], b, h1, h2, rfl⟩
      · rintro ⟨_, b, h1, h2, _⟩; exact ⟨b, h1, h2⟩
    · simp [tr_mk, trOf, lang_st]
    · intro b hb
      simp only [tr_mk, trOf, lang_st, show (2 : Int) = 1 ↔ False from by decide, if_false, if_true]
      constructor
      · intro h; exact ⟨[], b, hb, h, rfl⟩
      · rintro ⟨w, c, _, hc, e⟩
        simp only [List.cons.injEq] at e
        rw [e.1]; exact hc
  · rintro a b _ _ ⟨a1, a2, a3⟩ ⟨b1, b2, b3⟩
    have e : (Cr.mk 3 0 0 [a, b]).tr = a.tr.thn b.tr := by rw [tr_mk, (trs_two a b).1, (trs_two a b).2]; simp [trOf]
    unfold TrOk
    rw [e]
    simp only [lang_cat]
    by_cases h : (a.tr.some && b.tr.some) = true
    · rw [Bool.and_eq_true, a1, b1] at h
      obtain ⟨⟨wa, ha⟩, wb, hb⟩ := h
      have hs : (a.tr.some && b.tr.some) = true := by rw [Bool.and_eq_true, a1, b1]; exact ⟨⟨wa, ha⟩, wb, hb⟩
      unfold Tr.thn
      rw [if_pos hs]
      refine ⟨⟨fun _ => ⟨_, wa, wb, rfl, ha, hb⟩, fun _ => rfl⟩, ?_, ?_⟩
      · simp only [Bool.and_eq_true, a2, b2]
        constructor
        · rintro ⟨h1, h2⟩; exact ⟨[], [], rfl, h1, h2⟩
        · rintro ⟨u, v, huv, h1, h2⟩
          obtain ⟨rfl, rfl⟩ := List.append_eq_nil_iff.1 huv.symm
          exact ⟨h1, h2⟩
      · intro c hc
        simp only
        by_cases hn : a.tr.null = true
        · rw [if_pos hn, BitVec.getLsbD_or, Bool.or_eq_true, a3 c hc, b3 c hc]
          rw [a2] at hn
          constructor
          · rintro (⟨w, h1⟩ | ⟨w, h1⟩)
            · exact ⟨w ++ wb, c :: w, wb, rfl, h1, hb⟩
            · exact ⟨w, [], c :: w, rfl, hn, h1⟩
          · rintro ⟨w, u, v, huv, h1, h2⟩
            cases u with
            | nil => simp only [List.nil_append] at huv; subst huv; exact .inr ⟨w, h2⟩
            | cons d u =>
              simp only [List.cons_append, List.cons.injEq] at huv
              obtain ⟨rfl, rfl⟩ := huv
              exact .inl ⟨u, h1⟩
        · rw [if_neg hn, a3 c hc]
          constructor
          · rintro ⟨w, h1⟩; exact ⟨w ++ wb, c :: w, wb, rfl, h1, hb⟩
          · rintro ⟨w, u, v, huv, h1, h2⟩
            cases u with
            | nil => rw [a2] at hn; exact absurd h1 hn
            | cons d u =>
              simp only [List.cons_append, List.cons.injEq] at huv
              obtain ⟨rfl, rfl⟩ := huv
              exact ⟨u, h1⟩
    · have hno : ∀ w, ¬ ∃ u v, w = u ++ v ∧ a.lang u ∧ b.lang v := by
        rintro w ⟨u, v, _, h1, h2⟩
        apply h
        rw [Bool.and_eq_true, a1, b1]
        exact ⟨⟨u, h1⟩, v, h2⟩
      unfold Tr.thn
      rw [if_neg h]
      refine ⟨⟨fun h => by simp [Tr.no] at h, fun ⟨w, h⟩ => absurd h (hno w)⟩, ⟨fun h => by simp [Tr.no] at h, fun h => absurd h (hno _)⟩, fun c _ => ⟨fun h => by simp [Tr.no] at h, fun ⟨w, h⟩ => absurd h (hno _)⟩⟩
  · rintro a b _ _ ⟨a1, a2, a3⟩ ⟨b1, b2, b3⟩
    have e : (Cr.mk 4 0 0 [a, b]).tr = a.tr.orr b.tr := by rw [tr_mk, (trs_two a b).1, (trs_two a b).2]; simp [trOf]
    unfold TrOk
    rw [e]
    simp only [lang_alt, Tr.orr, Bool.or_eq_true, a1, b1, a2, b2]
    refine ⟨exists_or.symm, trivial, fun c hc => ?_⟩
    rw [BitVec.getLsbD_or, Bool.or_eq_true, a3 c hc, b3 c hc]
    exact exists_or.symm
  · rintro a _ ⟨a1, a2, a3⟩
    have e : (Cr.mk 5 0 0 [a]).tr = ⟨true, true, a.tr.first⟩ := by rw [tr_mk, trs_one]; simp [trOf]
    unfold TrOk
    rw [e]
    simp only [lang_star]
    refine ⟨⟨fun _ => ⟨[], .nil⟩, fun _ => trivial⟩, ⟨fun _ => .nil, fun _ => trivial⟩, fun c hc => ?_⟩
    rw [a3 c hc]
    constructor
    · rintro ⟨w, h⟩; exact ⟨w, Stars.one h⟩
    · rintro ⟨w, h⟩
      obtain ⟨u, v, _, h1, _⟩ := Stars.cons_iff.1 h
      exact ⟨u, h1⟩
  · rintro n a _ _ _ ⟨a1, a2, a3⟩
    have e : (Cr.mk 6 0 n [a]).tr = a.tr := by rw [tr_mk, trs_one]; simp [trOf]
    unfold TrOk
    rw [e]
    simp only [lang_grp]
    exact ⟨a1, a2, a3⟩
  · rintro a _ ⟨a1, a2, a3⟩
    have e : (Cr.mk 7 0 0 [a]).tr = a.tr := by rw [tr_mk, trs_one]; simp [trOf]
    unfold TrOk
    rw [e]
    simp only [lang_ren]
    exact ⟨a1, a2, a3⟩

/-! whether a word is among them, by what is left behind its bytes -/
def derOf (k : Int) (s : BitVec 256) (l : List Cr) (t : Tr) (p q : Cr) (b : Nat) : Cr :=
  if k = 2 then (if s.getLsbD b = true then .mk 1 0 0 [] else .mk 0 0 0 [])
  else if k = 3 then (if t.null = true then .mk 4 0 0 [.mk 3 0 0 [p, l.getD 1 (.mk 0 0 0 [])], q] else .mk 3 0 0 [p, l.getD 1 (.mk 0 0 0 [])])
  else if k = 4 then .mk 4 0 0 [p, q]
  else if k = 5 then .mk 3 0 0 [p, .mk 5 0 0 l]
  else if k = 6 ∨ k = 7 then p else .mk 0 0 0 []
mutual
def Cr.der (b : Nat) : Cr → Cr
  | .mk k s _ l => derOf k s l ((trs l).getD 0 .no) ((ders b l).getD 0 (.mk 0 0 0 [])) ((ders b l).getD 1 (.mk 0 0 0 [])) b
def ders (b : Nat) : List Cr → List Cr
  | [] => []
  | x :: l => x.der b :: ders b l
end
theorem der_mk (b : Nat) (k : Int) (s : BitVec 256) (n : Int) (l : List Cr) : (Cr.mk k s n l).der b = derOf k s l ((trs l).getD 0 .no) ((ders b l).getD 0 (.mk 0 0 0 [])) ((ders b l).getD 1 (.mk 0 0 0 [])) b := by rw [Cr.der]
theorem ders_one (c : Nat) (a : Cr) : (ders c [a]).getD 0 (.mk 0 0 0 []) = a.der c := by rw [ders]; rfl
theorem ders_two (c : Nat) (a b : Cr) : (ders c [a, b]).getD 0 (.mk 0 0 0 []) = a.der c ∧ (ders c [a, b]).getD 1 (.mk 0 0 0 []) = b.der c := by rw [ders, ders]; exact ⟨rfl, rfl⟩
theorem form_no : (Cr.mk 0 0 0 []).form = true := by decide +kernel
theorem form_em : (Cr.mk 1 0 0 []).form = true := by decide +kernel
theorem form_st (s : BitVec 256) : (Cr.mk 2 s 0 []).form = true := by rw [form_mk, forms_nil]; simp [partOk]
theorem form_cat {a b : Cr} (ha : a.form = true) (hb : b.form = true) : (Cr.mk 3 0 0 [a, b]).form = true := by rw [form_mk, forms_cons, forms_cons, forms_nil, ha, hb]; simp [partOk]
theorem form_alt {a b : Cr} (ha : a.form = true) (hb : b.form = true) : (Cr.mk 4 0 0 [a, b]).form = true := by rw [form_mk, forms_cons, forms_cons, forms_nil, ha, hb]; simp [partOk]
theorem form_star {a : Cr} (ha : a.form = true) : (Cr.mk 5 0 0 [a]).form = true := by rw [form_mk, forms_cons, forms_nil, ha]; simp [partOk]
def DerOk (c : Nat) (x : Cr) : Prop := (x.der c).form = true ∧ ∀ w, ((x.der c).lang w ↔ x.lang (c :: w))
theorem der_ok (c : Nat) (hc : c < 256) : ∀ x : Cr, x.form = true → DerOk c x := by
  refine form_ind ?_ ?_ ?_ ?_ ?_ ?_ ?_ ?_
  · have e : (Cr.mk 0 0 0 []).der c = .mk 0 0 0 [] := by rw [der_mk]; simp [derOf]
    refine ⟨by rw [e]; exact form_no, fun w => by rw [e, lang_no, lang_no]⟩
  · have e : (Cr.mk 1 0 0 []).der c = .mk 0 0 0 [] := by rw [der_mk]; simp [derOf]
    refine ⟨by rw [e]; exact form_no, fun w => by rw [e, lang_no, lang_em]; simp⟩
  · intro s
    have e : (Cr.mk 2 s 0 []).der c = if s.getLsbD c = true then .mk 1 0 0 [] else .mk 0 0 0 [] := by rw [der_mk]; simp [derOf]
    unfold DerOk
    rw [e]
    split
    · rename_i h
      refine ⟨form_em, fun w => ?_⟩
      rw [lang_em, lang_st]
      constructor
      · rintro rfl; exact ⟨c, hc, h, rfl⟩
      · rintro ⟨b, _, _, e⟩; simp only [List.cons.injEq] at e; exact e.2
    · rename_i h
      refine ⟨form_no, fun w => ?_⟩
      rw [lang_no, lang_st]
      constructor
      · exact fun h => h.elim
      · rintro ⟨b, _, hb, e⟩; simp only [List.cons.injEq] at e; rw [← e.1] at hb; exact h hb
  · rintro a b fa fb ⟨ga, la⟩ ⟨gb, lb⟩
    have e : (Cr.mk 3 0 0 [a, b]).der c = if a.tr.null = true then .mk 4 0 0 [.mk 3 0 0 [a.der c, b], b.der c] else .mk 3 0 0 [a.der c, b] := by
      rw [der_mk, (ders_two c a b).1, (ders_two c a b).2, (trs_two a b).1]; simp [derOf]
    obtain ⟨_, hn, _⟩ := tr_ok a fa
    have key : ∀ w, (∃ u v, c :: w = u ++ v ∧ a.lang u ∧ b.lang v) ↔ (∃ u v, w = u ++ v ∧ a.lang (c :: u) ∧ b.lang v) ∨ (a.lang [] ∧ b.lang (c :: w)) := by
      intro w
      constructor
      · rintro ⟨u, v, huv, h1, h2⟩
        cases u with
        | nil => simp only [List.nil_append] at huv; subst huv; exact .inr ⟨h1, h2⟩
        | cons d u =>
          simp only [List.cons_append, List.cons.injEq] at huv
          obtain ⟨rfl, rfl⟩ := huv
          exact .inl ⟨u, v, rfl, h1, h2⟩
      · rintro (⟨u, v, rfl, h1, h2⟩ | ⟨h1, h2⟩)
        · exact ⟨c :: u, v, rfl, h1, h2⟩
        · exact ⟨[], c :: w, rfl, h1, h2⟩
    unfold DerOk
    rw [e]
    split
    · rename_i h
      rw [hn] at h
      refine ⟨form_alt (form_cat ga fb) gb, fun w => ?_⟩
      rw [lang_alt, lang_cat, lang_cat, key, lb]
      simp only [la, h, true_and]
    · rename_i h
      rw [hn] at h
      refine ⟨form_cat ga fb, fun w => ?_⟩
      rw [lang_cat, lang_cat, key]
      simp only [la, h, false_and, or_false]
  · rintro a b fa fb ⟨ga, la⟩ ⟨gb, lb⟩
    have e : (Cr.mk 4 0 0 [a, b]).der c = .mk 4 0 0 [a.der c, b.der c] := by
      rw [der_mk, (ders_two c a b).1, (ders_two c a b).2]; simp [derOf]
    refine ⟨by rw [e]; exact form_alt ga gb, fun w => by rw [e, lang_alt, lang_alt, la, lb]⟩
  · rintro a fa ⟨ga, la⟩
    have e : (Cr.mk 5 0 0 [a]).der c = .mk 3 0 0 [a.der c, .mk 5 0 0 [a]] := by
      rw [der_mk, ders_one]; simp [derOf]
    refine ⟨by rw [e]; exact form_cat ga (form_star fa), fun w => ?_⟩
    rw [e, lang_cat, lang_star, Stars.cons_iff]
    simp only [la, lang_star]
  · rintro n a _ _ _ ⟨ga, la⟩
    have e : (Cr.mk 6 0 n [a]).der c = a.der c := by rw [der_mk, ders_one]; simp [derOf]
    exact ⟨by rw [e]; exact ga, fun w => by rw [e, lang_grp, la]⟩
  · rintro a _ ⟨ga, la⟩
    have e : (Cr.mk 7 0 0 [a]).der c = a.der c := by rw [der_mk, ders_one]; simp [derOf]
    exact ⟨by rw [e]; exact ga, fun w => by rw [e, lang_ren, la]⟩
/-- whether a core matches a word -/
def matchB : Cr → List Nat → Bool
  | x, [] => x.tr.null
  | x, b :: w => matchB (x.der b) w
theorem matchB_iff : ∀ (w : List Nat) (x : Cr), x.form = true → (∀ b ∈ w, b < 256) → (matchB x w = true ↔ x.lang w)
  | [], x, hx, _ => (tr_ok x hx).2.1
  | b :: w, x, hx, hw => by
    have hb := hw b (by simp)
    obtain ⟨h1, h2⟩ := der_ok b hb x hx
    rw [matchB, matchB_iff w (x.der b) h1 (fun c hc => hw c (by simp [hc])), h2]
end K
end Go.Proofs.Ytobhjfhmhhahoaa
