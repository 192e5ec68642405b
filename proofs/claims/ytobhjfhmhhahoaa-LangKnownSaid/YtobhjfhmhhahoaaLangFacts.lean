/- The mathematics of the laws of layer 9: what parts, stars and first bytes tell of words. -/
import Derived.Test.YtobhjfhmhhahoaaLangMach
namespace Go.Proofs.Ytobhjfhmhhahoaa
namespace K
set_option maxRecDepth 100000
def nullC (x : Cr) : Bool := goodC x && x.tr.null
def firstC (x : Cr) : BitVec 256 := if goodC x = true then x.tr.first else 0
theorem good_form {x : Cr} (h : goodC x = true) : x.form = true ∧ x.count ≤ 2000 := by
  unfold goodC at h; rw [Bool.and_eq_true, decide_eq_true_eq] at h; exact ⟨h.2, h.1⟩
theorem good_of {x : Cr} (h : x.form = true) (hc : x.count ≤ 2000) : goodC x = true := by
  unfold goodC; rw [h, decide_eq_true hc]; rfl
theorem count_of_size {x : Cr} {n : Nat} (h : sizeOfC x ≤ n) (hn : n < 100000) : x.count ≤ n := by unfold sizeOfC at h; omega
theorem count_seq (k : Int) (a b : Cr) : (Cr.mk k 0 0 [a, b]).count = 1 + a.count + b.count := by rw [count_mk, counts_cons, counts_cons, counts_nil]; omega
theorem count_one (k : Int) (a : Cr) : (Cr.mk k 0 0 [a]).count = 1 + a.count := by rw [count_mk, counts_cons, counts_nil]; omega
/-- of good cores and short words -/
theorem says_iff {x : Cr} {l : List Nat} (hg : goodC x = true) (hl : l.length ≤ 256) (hb : ∀ b ∈ l, b < 256) : saysC x l = true ↔ x.lang l := by
  unfold saysC
  rw [hg, decide_eq_true hl, Bool.true_and, Bool.true_and]
  exact matchB_iff l x (good_form hg).1 hb
theorem endsL_congr {p q : List Nat → Bool} : ∀ (r w : List Nat) (i : Nat), (∀ k, k ≤ r.length → p (w ++ r.take k) = q (w ++ r.take k)) → endsL p w i r = endsL q w i r
  | [], w, i, h => by
    have := h 0 (Nat.le_refl _)
    rw [List.take_zero, List.append_nil] at this
    rw [endsL, endsL, this]
  | b :: r, w, i, h => by
    have h0 := h 0 (Nat.zero_le _)
    rw [List.take_zero, List.append_nil] at h0
    rw [endsL, endsL, h0, endsL_congr (p := p) (q := q) r (w ++ [b]) (i + 1) (fun k hk => by
      have := h (k + 1) (by simp; omega)
      rw [List.take_succ_cons] at this
      rw [List.append_assoc]; exact this)]
/-! stars -/
theorem stars_says {x : Cr} {l : List Nat} (hx : x.form = true) (hc : x.count ≤ 100) (hl : l.length ≤ 256) (hb : ∀ b ∈ l, b < 256) :
    saysC (.mk 5 0 0 [x]) l = saysC (.mk 5 0 0 [.mk 5 0 0 [x]]) l := by
  have f1 := form_star hx
  have g1 : goodC (.mk 5 0 0 [x]) = true := good_of f1 (by rw [count_one]; omega)
  have g2 : goodC (.mk 5 0 0 [.mk 5 0 0 [x]]) = true := good_of (form_star f1) (by rw [count_one, count_one]; omega)
  rw [Bool.eq_iff_iff, says_iff g1 hl hb, says_iff g2 hl hb, lang_star, lang_star]
  have e : ∀ w, (Cr.mk 5 0 0 [x]).lang w ↔ Stars x.lang w := lang_star x
  constructor
  · intro h; exact Stars.one ((e l).2 h)
  · intro h
    have : ∀ w, Stars (Cr.mk 5 0 0 [x]).lang w → Stars x.lang w := fun w h => by
      induction h with
      | nil => exact .nil
      | app hu _ ih => exact ((e _).1 hu).trans ih
    exact this l h
theorem stars_ends {x : Cr} {l : List Nat} (hx : x.form = true) (hc : x.count ≤ 100) (hl : l.length ≤ 256) (hb : ∀ b ∈ l, b < 256) :
    endsC (.mk 5 0 0 [x]) l 0 = endsC (.mk 3 0 0 [.mk 5 0 0 [x], .mk 5 0 0 [x]]) l 0 := by
  have f1 := form_star hx
  have f2 := form_cat f1 f1
  have g1 : goodC (.mk 5 0 0 [x]) = true := good_of f1 (by rw [count_one]; omega)
  have g2 : goodC (.mk 3 0 0 [.mk 5 0 0 [x], .mk 5 0 0 [x]]) = true := good_of f2 (by rw [count_seq, count_one]; omega)
  unfold endsC
  rw [if_pos ⟨hl, by decide, by omega, g1⟩, if_pos ⟨hl, by decide, by omega, g2⟩]
  refine endsL_congr _ _ _ fun k _ => ?_
  rw [show (0 : Int).toNat = 0 from rfl, List.drop_zero, List.nil_append]
  have hbk : ∀ b ∈ l.take k, b < 256 := fun b h => hb b (List.mem_of_mem_take h)
  rw [Bool.eq_iff_iff, matchB_iff _ _ f1 hbk, matchB_iff _ _ f2 hbk, lang_cat, lang_star]
  simp only [lang_star]
  constructor
  · intro h; exact ⟨_, [], by simp, h, .nil⟩
  · rintro ⟨u, v, e, hu, hv⟩; rw [e]; exact hu.trans hv
theorem stars_null {x : Cr} (hx : x.form = true) (hc : x.count ≤ 100) : nullC (.mk 5 0 0 [x]) = true := by
  have f1 := form_star hx
  have g1 : goodC (.mk 5 0 0 [x]) = true := good_of f1 (by rw [count_one]; omega)
  unfold nullC
  rw [g1, Bool.true_and, (tr_ok _ f1).2.1, lang_star]
  exact .nil
/-! first bytes -/
theorem first_has {x : Cr} {l : List Nat} (hg : goodC x = true) (hb : ∀ b ∈ l, b < 256) {j : Nat} (hj : j ∈ endsC x l 0) (h0 : 0 < j) : 0 < l.length ∧ (x.tr.first).getLsbD (l.getD 0 0) = true := by
  unfold endsC at hj
  split at hj
  · obtain ⟨k, hk, rfl, hp⟩ := (endsL_mem _ _ _ _).1 hj
    simp only [Int.toNat_zero, List.drop_zero, List.nil_append, Nat.zero_add] at hk hp h0
    have hx := (good_form hg).1
    rw [matchB_iff _ _ hx (fun b h => hb b (List.mem_of_mem_take h))] at hp
    cases l with
    | nil => simp at hk; omega
    | cons b l =>
      refine ⟨by simp, ?_⟩
      obtain ⟨k, rfl⟩ : ∃ m, k = m + 1 := ⟨k - 1, by omega⟩
      rw [List.take_succ_cons] at hp
      exact ((tr_ok x hx).2.2 b (hb b (by simp))).2 ⟨_, hp⟩
  · cases hj
theorem ends_null {x : Cr} {l : List Nat} (hj : 0 ∈ endsC x l 0) : x.tr.null = true := by
  unfold endsC at hj
  split at hj
  · obtain ⟨k, hk, e, hp⟩ := (endsL_mem _ _ _ _).1 hj
    simp only [Int.toNat_zero, List.drop_zero, List.nil_append] at hk hp e
    obtain rfl : k = 0 := by omega
    rw [List.take_zero, matchB] at hp
    exact hp
  · cases hj
/-! parts -/
def catHere (a b : Cr) (l : List Nat) (i : Nat) : Bool := saysC a (l.take i) && saysC b (l.drop i)
def anyUpTo (f : Nat → Bool) : Nat → Bool
  | 0 => false
  | n + 1 => anyUpTo f n || f n
theorem anyUpTo_iff (f : Nat → Bool) : ∀ n, anyUpTo f n = true ↔ ∃ i, i < n ∧ f i = true
  | 0 => by simp [anyUpTo]
  | n + 1 => by
    rw [anyUpTo, Bool.or_eq_true, anyUpTo_iff f n]
    constructor
    · rintro (⟨i, h1, h2⟩ | h)
      · exact ⟨i, by omega, h2⟩
      · exact ⟨n, by omega, h⟩
    · rintro ⟨i, h1, h2⟩
      by_cases e : i = n
      · subst e; exact .inr h2
      · exact .inl ⟨i, by omega, h2⟩
theorem cat_says {a b : Cr} {l : List Nat} (ga : goodC a = true) (gb : goodC b = true) (gs : goodC (.mk 3 0 0 [a, b]) = true) (hl : l.length ≤ 256) (hb : ∀ x ∈ l, x < 256) :
    saysC (.mk 3 0 0 [a, b]) l = anyUpTo (catHere a b l) (l.length + 1) := by
  rw [Bool.eq_iff_iff, says_iff gs hl hb, lang_cat, anyUpTo_iff]
  have ht : ∀ i, (∀ x ∈ l.take i, x < 256) := fun i x h => hb x (List.mem_of_mem_take h)
  have hd : ∀ i, (∀ x ∈ l.drop i, x < 256) := fun i x h => hb x (List.mem_of_mem_drop h)
  constructor
  · rintro ⟨u, v, rfl, hu, hv⟩
    refine ⟨u.length, by simp; omega, ?_⟩
    unfold catHere
    rw [Bool.and_eq_true, says_iff ga (by simp at hl ⊢; omega) (ht _), says_iff gb (by simp at hl ⊢; omega) (hd _)]
    simpa using ⟨hu, hv⟩
  · rintro ⟨i, _, h⟩
    unfold catHere at h
    rw [Bool.and_eq_true, says_iff ga (by simp; omega) (ht _), says_iff gb (by simp; omega) (hd _)] at h
    exact ⟨_, _, (List.take_append_drop i l).symm, h.1, h.2⟩
theorem alt_says {a b : Cr} {l : List Nat} (ga : goodC a = true) (gb : goodC b = true) (gs : goodC (.mk 4 0 0 [a, b]) = true) (hl : l.length ≤ 256) (hb : ∀ x ∈ l, x < 256) :
    saysC (.mk 4 0 0 [a, b]) l = (saysC a l || saysC b l) := by
  rw [Bool.eq_iff_iff, Bool.or_eq_true, says_iff gs hl hb, lang_alt, says_iff ga hl hb, says_iff gb hl hb]
theorem star_says {a : Cr} {l : List Nat} (ga : goodC a = true) (gs : goodC (.mk 5 0 0 [a]) = true) (hl : l.length ≤ 256) (hb : ∀ x ∈ l, x < 256) :
    saysC (.mk 5 0 0 [a]) l = (decide (l.length = 0) || anyUpTo (fun i => catHere a (.mk 5 0 0 [a]) l (i + 1)) l.length) := by
  rw [Bool.eq_iff_iff, says_iff gs hl hb, lang_star, Bool.or_eq_true, decide_eq_true_eq, anyUpTo_iff]
  have ht : ∀ i, (∀ x ∈ l.take i, x < 256) := fun i x h => hb x (List.mem_of_mem_take h)
  have hd : ∀ i, (∀ x ∈ l.drop i, x < 256) := fun i x h => hb x (List.mem_of_mem_drop h)
  cases l with
  | nil => exact ⟨fun _ => .inl rfl, fun _ => .nil⟩
  | cons c l =>
    rw [Stars.cons_iff]
    constructor
    · rintro ⟨u, v, rfl, hu, hv⟩
      refine .inr ⟨u.length, by simp; omega, ?_⟩
      unfold catHere
      rw [Bool.and_eq_true, says_iff ga (by simp at hl ⊢; omega) (ht _), says_iff gs (by simp at hl ⊢; omega) (hd _), lang_star]
      simpa using ⟨hu, hv⟩
    · rintro (h | ⟨i, _, h⟩)
      · simp at h
      · unfold catHere at h
        rw [Bool.and_eq_true, says_iff ga (by simp at hl ⊢; omega) (ht _), says_iff gs (by simp at hl ⊢; omega) (hd _), lang_star] at h
        rw [List.take_succ_cons, List.drop_succ_cons] at h
        exact ⟨_, _, (List.take_append_drop i l).symm, h.1, h.2⟩
theorem parts_good {a b : Cr} (h : goodC (.mk 3 0 0 [a, b]) = true) (hs : a.count + b.count ≤ 120) : goodC a = true ∧ goodC b = true ∧ goodC (.mk 4 0 0 [a, b]) = true ∧ goodC (.mk 5 0 0 [a]) = true := by
  have hf := (good_form h).1
  rw [form_mk, forms_cons, forms_cons, forms_nil, Bool.and_eq_true, Bool.and_eq_true, Bool.and_eq_true] at hf
  obtain ⟨_, fa, fb, _⟩ := hf
  exact ⟨good_of fa (by omega), good_of fb (by omega), good_of (form_alt fa fb) (by rw [count_seq]; omega), good_of (form_star fa) (by rw [count_one]; omega)⟩
theorem null_cat {a b : Cr} (ga : goodC a = true) (gb : goodC b = true) (gs : goodC (.mk 3 0 0 [a, b]) = true) : nullC (.mk 3 0 0 [a, b]) = (nullC a && nullC b) := by
  unfold nullC
  rw [ga, gb, gs, Bool.true_and, Bool.true_and, Bool.true_and, Bool.eq_iff_iff, Bool.and_eq_true, (tr_ok _ (good_form gs).1).2.1, (tr_ok _ (good_form ga).1).2.1, (tr_ok _ (good_form gb).1).2.1, lang_cat]
  constructor
  · rintro ⟨u, v, e, hu, hv⟩
    obtain ⟨rfl, rfl⟩ := List.append_eq_nil_iff.1 e.symm
    exact ⟨hu, hv⟩
  · rintro ⟨hu, hv⟩; exact ⟨[], [], rfl, hu, hv⟩
theorem null_says {a : Cr} (ga : goodC a = true) : nullC a = saysC a [] := by
  rw [Bool.eq_iff_iff, says_iff ga (by decide) (by simp)]
  unfold nullC
  rw [ga, Bool.true_and]
  exact (tr_ok _ (good_form ga).1).2.1
end K
end Go.Proofs.Ytobhjfhmhhahoaa
