/- Two values of one core that have the same text are the same. -/
import Derived.Test.YtblgjcolmaidlaaValFacts
namespace Go.Proofs.Ytblgjcolmaidlaa
namespace V
set_option maxRecDepth 100000
open Go.RowKit
theorem hexD_inj {a b : Nat} (ha : a < 16) (hb : b < 16) (h : hexD a = hexD b) : a = b := by
  unfold hexD at h
  split at h <;> split at h <;> omega
/-- how texts of good values begin -/
theorem txt_head {v : Vl} (h : formV v.kind v.byte v.nodes.length = true) : ∃ c r, v.txt = c :: r ∧ c ≠ 93 := by
  have hn := form_txt h
  rw [txt_cntd] at hn ⊢
  generalize (cntd v).map Vl.txt = ps at *
  generalize v.kind = k at *
  unfold partsT at hn ⊢
  split
  · exact ⟨_, _, rfl, by decide⟩
  rw [if_neg (by assumption)] at hn
  split
  · refine ⟨_, _, rfl, ?_⟩
    unfold hexD
    split <;> omega
  rw [if_neg (by assumption)] at hn
  split
  · exact ⟨_, _, rfl, by decide⟩
  rw [if_neg (by assumption)] at hn
  split
  · exact ⟨_, _, rfl, by decide⟩
  rw [if_neg (by assumption)] at hn
  split
  · exact ⟨_, _, rfl, by decide⟩
  rw [if_neg (by assumption)] at hn
  split
  · exact ⟨_, _, rfl, by decide⟩
  rw [if_neg (by assumption)] at hn
  split
  · exact ⟨_, _, rfl, by decide⟩
  rw [if_neg (by assumption)] at hn
  exact absurd rfl hn
/-- one reads the other -/
def Reads (c : K.Cr) : Prop := ∀ (v u : Vl) (r s : List Nat), bel c v = true → bel c u = true → v.txt ++ r = u.txt ++ s → v = u ∧ r = s
theorem join_reads {c : K.Cr} (hc : Reads c) : ∀ (l m : List Vl) (r s : List Nat), l.all (bel c) = true → m.all (bel c) = true → joinT (l.map Vl.txt) ++ (93 :: r) = joinT (m.map Vl.txt) ++ (93 :: s) → l = m ∧ r = s
  | [], [], r, s, _, _, h => ⟨rfl, by simpa [joinT] using h⟩
  | [], y :: m, r, s, _, hm, h => by
    rw [List.all_cons, Bool.and_eq_true] at hm
    obtain ⟨c0, r0, e, hne⟩ := txt_head (bel_form _ c y (Nat.le_refl _) hm.1)
    cases m <;> (simp only [List.map_nil, List.map_cons, joinT, e, List.nil_append, List.cons_append] at h; injection h with h1 _; exact absurd h1.symm hne)
  | x :: l, [], r, s, hl, _, h => by
    rw [List.all_cons, Bool.and_eq_true] at hl
    obtain ⟨c0, r0, e, hne⟩ := txt_head (bel_form _ c x (Nat.le_refl _) hl.1)
    cases l <;> (simp only [List.map_nil, List.map_cons, joinT, e, List.nil_append, List.cons_append] at h; injection h with h1 _; exact absurd h1 hne)
  | x :: l, y :: m, r, s, hl, hm, h => by
    rw [List.all_cons, Bool.and_eq_true] at hl hm
    match l, m, hl, hm, h with
    | [], [], hl, hm, h =>
      simp only [List.map_nil, List.map_cons, joinT] at h
      obtain ⟨e1, e2⟩ := hc x y _ _ hl.1 hm.1 h
      injection e2 with _ e2
      exact ⟨by rw [e1], e2⟩
    | [], y2 :: m, hl, hm, h =>
      simp only [List.map_nil, List.map_cons, joinT, List.append_assoc, List.cons_append] at h
      obtain ⟨e1, e2⟩ := hc x y _ _ hl.1 hm.1 h
      injection e2 with e2 _
      cases e2
    | x2 :: l, [], hl, hm, h =>
      simp only [List.map_nil, List.map_cons, joinT, List.append_assoc, List.cons_append] at h
      obtain ⟨e1, e2⟩ := hc x y _ _ hl.1 hm.1 h
      injection e2 with e2 _
      cases e2
    | x2 :: l, y2 :: m, hl, hm, h =>
      rw [List.map_cons, List.map_cons, List.map_cons, List.map_cons, joinT, joinT, List.append_assoc, List.append_assoc, List.cons_append, List.cons_append] at h
      obtain ⟨e1, e2⟩ := hc x y _ _ hl.1 hm.1 h
      injection e2 with _ e2
      rw [← List.map_cons, ← List.map_cons] at e2
      obtain ⟨e3, e4⟩ := join_reads hc (x2 :: l) (y2 :: m) r s hl.2 hm.2 e2
      exact ⟨by rw [e1, e3], e4⟩
theorem form_zero {k : Int} {b len : Nat} (h : formV k b len = true) (hk : k ≠ 2) : b = 0 := by
  unfold formV at h
  rw [Bool.and_eq_true] at h
  have h := h.1
  rw [show (k == 2) = false from by simp [hk], Bool.false_or, decide_eq_true_eq] at h
  exact h
theorem form_len {k : Int} {b len : Nat} (h : formV k b len = true) : (k = 1 ∨ k = 2 → len = 0) ∧ (k = 3 → len = 2) ∧ (k = 4 ∨ k = 5 ∨ k = 7 → len = 1) := by
  unfold formV at h
  rw [Bool.and_eq_true] at h
  have h := h.2
  refine ⟨fun e => ?_, fun e => ?_, fun e => ?_⟩
  · rw [if_pos e] at h; simpa using h
  · subst e
    simpa using h
  · rw [if_neg (by omega), if_neg (by omega), if_pos e] at h; simpa using h
theorem reads_any : ∀ (m : Nat) (c : K.Cr), c.count ≤ m → Reads c
  | 0, c, h => absurd (K.Cr.count_pos c) (by omega)
  | m + 1, .mk k st n cl, h => by
    have kid : ∀ y ∈ cl, Reads y := fun y hy => reads_any m y (by have := K.counts_mem hy; rw [K.count_mk] at h; omega)
    have hnone : ∀ v : Vl, ¬ ((fun _ => false : Vl → Bool) v = true) := fun v h => by cases h
    have hget : ∀ (i : Nat) (v u : Vl) (r s : List Nat), (cl.map bel).getD i (fun _ => false) v = true → (cl.map bel).getD i (fun _ => false) u = true → v.txt ++ r = u.txt ++ s → v = u ∧ r = s := fun i v u r s h1 h2 h3 => by
      rw [List.getD_eq_getElem?_getD, List.getElem?_map] at h1 h2
      cases hi : cl[i]? with
      | none => rw [hi] at h1; cases h1
      | some y =>
        rw [hi] at h1 h2
        exact kid y (List.mem_of_getElem? hi) v u r s h1 h2 h3
    intro v u r s hv hu he
    rw [bel_mk] at hv hu
    by_cases h7 : k = 7
    · subst h7
      rw [belT_seven] at hv hu
      exact hget 0 v u r s hv hu he
    obtain ⟨vk, vz, vl⟩ := v
    obtain ⟨uk, uz, ul⟩ := u
    rw [belT_else h7, Bool.and_eq_true] at hv hu
    obtain ⟨hfv, hv⟩ := hv
    obtain ⟨hfu, hu⟩ := hu
    rw [txt_cntd, txt_cntd, form_cntd hfv, form_cntd hfu] at he
    simp only [Vl.kind, Vl.byte] at he
    have lv := form_len hfv
    have lu := form_len hfu
    unfold belK at hv hu
    by_cases h1 : k = 1
    · rw [if_pos h1, beq_iff_eq] at hv hu
      subst hv hu
      rw [List.length_eq_zero_iff.1 (lv.1 (.inl rfl)), List.length_eq_zero_iff.1 (lu.1 (.inl rfl)), form_zero hfv (by decide), form_zero hfu (by decide)]
      refine ⟨rfl, ?_⟩
      simpa [partsT] using he
    rw [if_neg h1] at hv hu
    by_cases h2 : k = 2
    · rw [if_pos h2, Bool.and_eq_true, beq_iff_eq] at hv hu
      obtain ⟨rfl, hv⟩ := hv
      obtain ⟨rfl, hu⟩ := hu
      have b1 : vz < 256 := by
        apply Classical.byContradiction
        intro hn
        rw [BitVec.getLsbD_of_ge _ _ (by omega)] at hv
        cases hv
      have b2 : uz < 256 := by
        apply Classical.byContradiction
        intro hn
        rw [BitVec.getLsbD_of_ge _ _ (by omega)] at hu
        cases hu
      rw [List.length_eq_zero_iff.1 (lv.1 (.inr rfl)), List.length_eq_zero_iff.1 (lu.1 (.inr rfl))]
      have he : hexT vz ++ r = hexT uz ++ s := he
      unfold hexT at he
      simp only [List.cons_append, List.nil_append, List.cons.injEq] at he
      have e1 := hexD_inj (by omega) (by omega) he.1
      have e2 := hexD_inj (by omega) (by omega) he.2.1
      obtain rfl : vz = uz := by omega
      exact ⟨rfl, he.2.2⟩
    rw [if_neg h2] at hv hu
    by_cases h3 : k = 3
    · rw [if_pos h3, Bool.and_eq_true, Bool.and_eq_true, beq_iff_eq] at hv hu
      obtain ⟨⟨rfl, hv0⟩, hv1⟩ := hv
      obtain ⟨⟨rfl, hu0⟩, hu1⟩ := hu
      match vl, lv.2.1 rfl with
      | [x, y], _ =>
      match ul, lu.2.1 rfl with
      | [x', y'], _ =>
        have he : 40 :: ((x.txt ++ 44 :: y.txt) ++ [41]) ++ r = 40 :: ((x'.txt ++ 44 :: y'.txt) ++ [41]) ++ s := he
        simp only [List.cons_append, List.append_assoc, List.cons.injEq, true_and] at he
        obtain ⟨e1, e2⟩ := hget 0 x x' _ _ hv0 hu0 he
        injection e2 with _ e2
        obtain ⟨e3, e4⟩ := hget 1 y y' _ _ hv1 hu1 e2
        injection e4 with _ e4
        rw [e1, e3, form_zero hfv (by decide), form_zero hfu (by decide)]
        exact ⟨rfl, e4⟩
    rw [if_neg h3] at hv hu
    by_cases h4 : k = 4
    · rw [if_pos h4, Bool.or_eq_true, Bool.and_eq_true, Bool.and_eq_true, beq_iff_eq, beq_iff_eq] at hv hu
      rcases hv with ⟨rfl, hv⟩ | ⟨rfl, hv⟩ <;> rcases hu with ⟨rfl, hu⟩ | ⟨rfl, hu⟩
      · match vl, lv.2.2 (by decide) with
        | [x], _ =>
        match ul, lu.2.2 (by decide) with
        | [x'], _ =>
          have he : 76 :: x.txt ++ r = 76 :: x'.txt ++ s := he
          simp only [List.cons_append, List.cons.injEq, true_and] at he
          obtain ⟨e1, e2⟩ := hget 0 x x' _ _ hv hu he
          rw [e1, form_zero hfv (by decide), form_zero hfu (by decide)]
          exact ⟨rfl, e2⟩
      · exfalso
        have he : 76 :: joinT (vl.map Vl.txt) ++ r = 82 :: joinT (ul.map Vl.txt) ++ s := he
        injection he with he _
        cases he
      · exfalso
        have he : 82 :: joinT (vl.map Vl.txt) ++ r = 76 :: joinT (ul.map Vl.txt) ++ s := he
        injection he with he _
        cases he
      · match vl, lv.2.2 (by decide) with
        | [x], _ =>
        match ul, lu.2.2 (by decide) with
        | [x'], _ =>
          have he : 82 :: x.txt ++ r = 82 :: x'.txt ++ s := he
          simp only [List.cons_append, List.cons.injEq, true_and] at he
          obtain ⟨e1, e2⟩ := hget 1 x x' _ _ hv hu he
          rw [e1, form_zero hfv (by decide), form_zero hfu (by decide)]
          exact ⟨rfl, e2⟩
    rw [if_neg h4] at hv hu
    by_cases h5 : k = 5
    · rw [if_pos h5, Bool.and_eq_true, beq_iff_eq] at hv hu
      obtain ⟨rfl, hv⟩ := hv
      obtain ⟨rfl, hu⟩ := hu
      have he : 91 :: (joinT (vl.map Vl.txt) ++ [93]) ++ r = 91 :: (joinT (ul.map Vl.txt) ++ [93]) ++ s := he
      simp only [List.cons_append, List.append_assoc, List.cons.injEq, true_and, List.nil_append] at he
      cases hcl : cl with
      | nil =>
        rw [hcl] at hv hu
        have hz : ∀ l : List Vl, l.all ((([] : List K.Cr).map bel).getD 0 (fun _ => false)) = true → l = [] := fun l h => by
          cases l with
          | nil => rfl
          | cons x l => simp at h
        rw [hz _ hv, hz _ hu] at he ⊢
        rw [form_zero hfv (by decide), form_zero hfu (by decide)]
        exact ⟨rfl, by simpa [joinT] using he⟩
      | cons y cl' =>
        rw [hcl] at hv hu
        obtain ⟨e1, e2⟩ := join_reads (kid y (by rw [hcl]; simp)) vl ul r s (by simpa using hv) (by simpa using hu) he
        rw [e1, form_zero hfv (by decide), form_zero hfu (by decide)]
        exact ⟨rfl, e2⟩
    rw [if_neg h5] at hv hu
    by_cases h6 : k = 6
    · rw [if_pos h6, Bool.and_eq_true, beq_iff_eq] at hv hu
      obtain ⟨rfl, hv⟩ := hv
      obtain ⟨rfl, hu⟩ := hu
      match vl, lv.2.2 (by decide) with
      | [x], _ =>
      match ul, lu.2.2 (by decide) with
      | [x'], _ =>
        have he : 60 :: (x.txt ++ [62]) ++ r = 60 :: (x'.txt ++ [62]) ++ s := he
        simp only [List.cons_append, List.append_assoc, List.cons.injEq, true_and] at he
        obtain ⟨e1, e2⟩ := hget 0 x x' _ _ hv hu he
        injection e2 with _ e2
        rw [e1, form_zero hfv (by decide), form_zero hfu (by decide)]
        exact ⟨rfl, e2⟩
    · rw [if_neg h6] at hv
      cases hv
theorem txt_same {c : K.Cr} {v u : Vl} (hv : bel c v = true) (hu : bel c u = true) : decide (v.txt = u.txt) = v.same u := by
  by_cases h : v.txt = u.txt
  · have h2 := (reads_any _ c (Nat.le_refl _) v u [] [] hv hu (by rw [h])).1
    rw [h2, Vl.same_refl, decide_eq_true rfl]
  · rw [decide_eq_false h]
    cases hs : v.same u with
    | false => rfl
    | true => exact absurd (by rw [Vl.same_eq v u hs]) h
end V
end Go.Proofs.Ytblgjcolmaidlaa
