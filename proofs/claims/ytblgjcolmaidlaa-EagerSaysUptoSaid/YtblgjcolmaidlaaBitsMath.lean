/- The plain mathematics of choices: those of a value, and the value that is got of them. -/
import Derived.Test.YtblgjcolmaidlaaValInj
namespace Go.Proofs.Ytblgjcolmaidlaa
namespace V
set_option maxRecDepth 100000
open Go.RowKit
/-- the choices, out of those of the elements -/
def putT (k : Int) (ps : List (List Nat)) : List Nat :=
  if k = 4 then 48 :: ps.flatten else if k = 5 then 49 :: ps.flatten else if k = 6 then ps.flatMap (fun p => 48 :: p) ++ [49] else ps.flatten
mutual
def Vl.put : Vl → List Nat
  | .mk k _ l => putT k ((putM l).take (cntN k l.length))
def putM : List Vl → List (List Nat)
  | [] => []
  | x :: l => x.put :: putM l
end
theorem putM_eq : ∀ l : List Vl, putM l = l.map Vl.put
  | [] => by rw [putM]; rfl
  | x :: l => by rw [putM, putM_eq l]; rfl
theorem put_mk (k : Int) (b : Nat) (l : List Vl) : (Vl.mk k b l).put = putT k ((l.take (cntN k l.length)).map Vl.put) := by
  rw [Vl.put, putM_eq, List.map_take]
theorem put_cntd (x : Vl) : x.put = putT x.kind ((cntd x).map Vl.put) := by
  cases x with
  | mk k z l => rw [put_mk]; rfl
/-! reading -/
abbrev Rd := List Nat → List Nat → Option (Vl × List Nat × List Nat)
def fNone : Rd := fun _ _ => none
def starT (f : Rd) : Nat → List Vl → Rd
  | 0, _, _, _ => none
  | _ + 1, _, [], _ => none
  | n + 1, acc, c :: r, s => if c = 48 then (match f r s with
      | none => none
      | some (x, r2, s2) => if s2.length = s.length then none else starT f n (acc ++ [x]) r2 s2)
    else if c = 49 then some (.mk 6 0 acc, r, s) else none
def oneT (f : Rd) (k : Int) : Rd := fun bs s => match f bs s with
  | none => none
  | some (x, b1, s1) => some (.mk k 0 [x], b1, s1)
def twoT (f g : Rd) : Rd := fun bs s => match f bs s with
  | none => none
  | some (x, b1, s1) => match g b1 s1 with
    | none => none
    | some (y, b2, s2) => some (.mk 3 0 [x, y], b2, s2)
def setT (st : BitVec 256) : Rd := fun bs s => match s with
  | [] => none
  | b :: r => if st.getLsbD b = true then some (.mk 2 b [], bs, r) else none
def altT (f g : Rd) : Rd := fun bs s => match bs with
  | [] => none
  | c :: r => if c = 48 then oneT f 4 r s else if c = 49 then oneT g 5 r s else none
def gotT (k : Int) (st : BitVec 256) (fs : List Rd) : Rd := fun bs s =>
  if k = 1 then some (.mk 1 0 [], bs, s)
  else if k = 2 then setT st bs s
  else if k = 3 then twoT (fs.getD 0 fNone) (fs.getD 1 fNone) bs s
  else if k = 4 then altT (fs.getD 0 fNone) (fs.getD 1 fNone) bs s
  else if k = 5 then starT (fs.getD 0 fNone) (bs.length + 1) [] bs s
  else if k = 6 then oneT (fs.getD 0 fNone) 7 bs s
  else if k = 7 then fs.getD 0 fNone bs s
  else none
mutual
def got : K.Cr → Rd
  | .mk k st _ l => gotT k st (gotM l)
def gotM : List K.Cr → List Rd
  | [] => []
  | x :: l => got x :: gotM l
end
theorem gotM_eq : ∀ l : List K.Cr, gotM l = l.map got
  | [] => by rw [gotM]; rfl
  | x :: l => by rw [gotM, gotM_eq l]; rfl
theorem got_mk (k : Int) (st : BitVec 256) (n : Int) (l : List K.Cr) : got (.mk k st n l) = gotT k st (l.map got) := by
  rw [got, gotM_eq]
/-! what is put is got -/
def Gets (f : Rd) (v : Vl) : Prop := ∀ r t : List Nat, f (v.put ++ r) (v.flat ++ t) = some (v, r, t)
theorem star_gets {f : Rd} : ∀ (l : List Vl) (n : Nat) (acc : List Vl) (r t : List Nat), l.length < n → (∀ x ∈ l, Gets f x ∧ 0 < x.flat.length) →
    starT f n acc ((l.map Vl.put).flatMap (fun p => 48 :: p) ++ [49] ++ r) (l.flatMap Vl.flat ++ t) = some (.mk 6 0 (acc ++ l), r, t)
  | [], n + 1, acc, r, t, _, _ => by
    show starT f (n + 1) acc (49 :: r) t = _
    rw [starT, if_neg (by decide), if_pos rfl, List.append_nil]
  | x :: l, n + 1, acc, r, t, hn, h => by
    have h0 := h x (by simp)
    have e1 : ((x :: l).map Vl.put).flatMap (fun p => 48 :: p) ++ [49] ++ r = 48 :: (x.put ++ ((l.map Vl.put).flatMap (fun p => 48 :: p) ++ [49] ++ r)) := by simp
    have e2 : (x :: l).flatMap Vl.flat ++ t = x.flat ++ (l.flatMap Vl.flat ++ t) := by simp
    rw [e1, e2, starT, if_pos rfl, h0.1]
    show (if (l.flatMap Vl.flat ++ t).length = (x.flat ++ (l.flatMap Vl.flat ++ t)).length then none else _) = _
    rw [if_neg (by simp only [List.length_append]; omega), star_gets l n (acc ++ [x]) r t (by simpa using hn) (fun y hy => h y (by simp [hy]))]
    simp
theorem one_gets {f : Rd} {x : Vl} (h : Gets f x) (k : Int) (r t : List Nat) : oneT f k (x.put ++ r) (x.flat ++ t) = some (.mk k 0 [x], r, t) := by
  unfold oneT
  rw [h]
theorem put_len (l : List Vl) : l.length ≤ ((l.map Vl.put).flatMap (fun p => 48 :: p)).length := by
  induction l with
  | nil => simp
  | cons x l ih => simp only [List.map_cons, List.flatMap_cons, List.length_append, List.length_cons]; omega
theorem put_full {k : Int} {z : Nat} {l : List Vl} (h : formV k z l.length = true) : (Vl.mk k z l).put = putT k (l.map Vl.put) := by
  rw [put_cntd, form_cntd h]; rfl
theorem flat_full {k : Int} {z : Nat} {l : List Vl} (h : formV k z l.length = true) (h2 : k ≠ 2) : (Vl.mk k z l).flat = l.flatMap Vl.flat := by
  rw [flat_mk, if_neg h2]
  have e := form_cntd h
  rw [cntd_mk] at e
  rw [e]
theorem full_full {k : Int} {z : Nat} {l : List Vl} (h : formV k z l.length = true) (h2 : k ≠ 2) : (Vl.mk k z l).fullB = l.all fun x => x.fullB && (decide (0 < x.flat.length) || k != 6) := by
  rw [fullB_mk, if_neg h2]
  have e := form_cntd h
  rw [cntd_mk] at e
  rw [e]
theorem got_put : ∀ (m : Nat) (c : K.Cr), c.count ≤ m → ∀ v : Vl, bel c v = true → v.fullB = true → Gets (got c) v
  | 0, c, h => absurd (K.Cr.count_pos c) (by omega)
  | m + 1, .mk k st n cl, h => by
    have kid : ∀ y ∈ cl, ∀ v : Vl, bel y v = true → v.fullB = true → Gets (got y) v := fun y hy => got_put m y (by have := K.counts_mem hy; rw [K.count_mk] at h; omega)
    have hget : ∀ (i : Nat) (v : Vl), (cl.map bel).getD i (fun _ => false) v = true → v.fullB = true → Gets ((cl.map got).getD i fNone) v := fun i v h1 h2 => by
      rw [List.getD_eq_getElem?_getD, List.getElem?_map] at h1 ⊢
      cases hi : cl[i]? with
      | none => rw [hi] at h1; cases h1
      | some y =>
        rw [hi] at h1
        exact kid y (List.mem_of_getElem? hi) v h1 h2
    intro v hv hf
    rw [bel_mk] at hv
    rw [got_mk]
    by_cases h7 : k = 7
    · subst h7
      rw [belT_seven] at hv
      exact hget 0 v hv hf
    obtain ⟨vk, vz, vl⟩ := v
    rw [belT_else h7, Bool.and_eq_true] at hv
    obtain ⟨hfv, hv⟩ := hv
    have lv := form_len hfv
    have e0 := form_zero hfv
    intro r t
    unfold belK at hv
    unfold gotT
    by_cases h1 : k = 1
    · rw [if_pos h1, beq_iff_eq] at hv
      subst hv
      rw [if_pos h1, put_full hfv, flat_full hfv (by decide), e0 (by decide), List.length_eq_zero_iff.1 (lv.1 (.inl rfl))]
      rfl
    rw [if_neg h1] at hv
    rw [if_neg h1]
    by_cases h2 : k = 2
    · rw [if_pos h2, Bool.and_eq_true, beq_iff_eq] at hv
      obtain ⟨rfl, hv⟩ := hv
      rw [if_pos h2, put_full hfv, List.length_eq_zero_iff.1 (lv.1 (.inr rfl)), flat_mk, if_pos rfl]
      show (if st.getLsbD vz = true then _ else _) = _
      rw [if_pos hv]; rfl
    rw [if_neg h2] at hv
    rw [if_neg h2]
    by_cases h3 : k = 3
    · rw [if_pos h3, Bool.and_eq_true, Bool.and_eq_true, beq_iff_eq] at hv
      obtain ⟨⟨rfl, hv0⟩, hv1⟩ := hv
      rw [full_full hfv (by decide)] at hf
      rw [if_pos h3, put_full hfv, flat_full hfv (by decide), e0 (by decide)]
      match vl, lv.2.1 rfl with
      | [x, y], _ =>
        simp only [List.all_cons, List.all_nil, Bool.and_true, Bool.and_eq_true] at hf
        have g0 := hget 0 x hv0 hf.1.1
        have g1 := hget 1 y hv1 hf.2.1
        have e1 : putT 3 ([x, y].map Vl.put) ++ r = x.put ++ (y.put ++ r) := by show (([x, y].map Vl.put).flatten) ++ r = _; simp
        have e2 : [x, y].flatMap Vl.flat ++ t = x.flat ++ (y.flat ++ t) := by simp
        rw [e1, e2]
        unfold twoT
        rw [g0]
        simp only
        rw [g1]
    rw [if_neg h3] at hv
    rw [if_neg h3]
    by_cases h4 : k = 4
    · rw [if_pos h4, Bool.or_eq_true, Bool.and_eq_true, Bool.and_eq_true, beq_iff_eq, beq_iff_eq] at hv
      rw [if_pos h4]
      rcases hv with ⟨rfl, hv⟩ | ⟨rfl, hv⟩
      · rw [full_full hfv (by decide)] at hf
        rw [put_full hfv, flat_full hfv (by decide), e0 (by decide)]
        match vl, lv.2.2 (by decide) with
        | [x], _ =>
          simp only [List.all_cons, List.all_nil, Bool.and_true, Bool.and_eq_true] at hf
          have e1 : putT 4 ([x].map Vl.put) ++ r = 48 :: (x.put ++ r) := by show 48 :: (([x].map Vl.put).flatten) ++ r = _; simp
          have e2 : [x].flatMap Vl.flat ++ t = x.flat ++ t := by simp
          rw [e1, e2]
          exact one_gets (hget 0 x hv hf.1) 4 r t
      · rw [full_full hfv (by decide)] at hf
        rw [put_full hfv, flat_full hfv (by decide), e0 (by decide)]
        match vl, lv.2.2 (by decide) with
        | [x], _ =>
          simp only [List.all_cons, List.all_nil, Bool.and_true, Bool.and_eq_true] at hf
          have e1 : putT 5 ([x].map Vl.put) ++ r = 49 :: (x.put ++ r) := by show 49 :: (([x].map Vl.put).flatten) ++ r = _; simp
          have e2 : [x].flatMap Vl.flat ++ t = x.flat ++ t := by simp
          rw [e1, e2]
          exact one_gets (hget 1 x hv hf.1) 5 r t
    rw [if_neg h4] at hv
    rw [if_neg h4]
    by_cases h5 : k = 5
    · rw [if_pos h5, Bool.and_eq_true, beq_iff_eq] at hv
      obtain ⟨rfl, hv⟩ := hv
      rw [full_full hfv (by decide), List.all_eq_true] at hf
      rw [List.all_eq_true] at hv
      rw [if_pos h5, put_full hfv, flat_full hfv (by decide), e0 (by decide)]
      have e1 : putT 6 (vl.map Vl.put) = (vl.map Vl.put).flatMap (fun p => 48 :: p) ++ [49] := rfl
      rw [e1]
      have h := star_gets (f := (cl.map got).getD 0 fNone) vl (((vl.map Vl.put).flatMap (fun p => 48 :: p) ++ [49] ++ r).length + 1) [] r t (by have := put_len vl; simp only [List.length_append]; omega) (fun x hx => by
        have h1 := hf x hx
        simp only [Bool.and_eq_true, Bool.or_eq_true, decide_eq_true_eq] at h1
        exact ⟨hget 0 x (hv x hx) h1.1, h1.2.resolve_right (by decide)⟩)
      rw [h, List.nil_append]
    rw [if_neg h5] at hv
    rw [if_neg h5]
    by_cases h6 : k = 6
    · rw [if_pos h6, Bool.and_eq_true, beq_iff_eq] at hv
      obtain ⟨rfl, hv⟩ := hv
      rw [full_full hfv (by decide)] at hf
      rw [if_pos h6, put_full hfv, flat_full hfv (by decide), e0 (by decide)]
      match vl, lv.2.2 (by decide) with
      | [x], _ =>
        simp only [List.all_cons, List.all_nil, Bool.and_true, Bool.and_eq_true] at hf
        have e1 : putT 7 ([x].map Vl.put) ++ r = x.put ++ r := by show (([x].map Vl.put).flatten) ++ r = _; simp
        have e2 : [x].flatMap Vl.flat ++ t = x.flat ++ t := by simp
        rw [e1, e2]
        exact one_gets (hget 0 x hv hf.1) 7 r t
    · rw [if_neg h6] at hv
      cases hv
/-! what is got was put -/
def Told (f : Rd) (g : Vl → Bool) : Prop := ∀ (bs s : List Nat) (v : Vl) (r t : List Nat), f bs s = some (v, r, t) → g v = true ∧ v.fullB = true ∧ bs = v.put ++ r ∧ s = v.flat ++ t
theorem star_told {f : Rd} {g : Vl → Bool} (h : Told f g) : ∀ (n : Nat) (acc : List Vl) (bs s : List Nat) (v : Vl) (r t : List Nat), starT f n acc bs s = some (v, r, t) →
    ∃ l : List Vl, v = .mk 6 0 (acc ++ l) ∧ (∀ x ∈ l, g x = true ∧ x.fullB = true ∧ 0 < x.flat.length) ∧ bs = (l.map Vl.put).flatMap (fun p => 48 :: p) ++ [49] ++ r ∧ s = l.flatMap Vl.flat ++ t
  | 0, _, _, _, _, _, _, e => by rw [starT] at e; cases e
  | n + 1, _, [], _, _, _, _, e => by rw [starT] at e; cases e
  | n + 1, acc, c :: bs, s, v, r, t, e => by
    rw [starT] at e
    by_cases h48 : c = 48
    · rw [if_pos h48] at e
      cases hf : f bs s with
      | none => rw [hf] at e; cases e
      | some q =>
        obtain ⟨x, r2, s2⟩ := q
        rw [hf] at e
        simp only at e
        by_cases hl : s2.length = s.length
        · rw [if_pos hl] at e; cases e
        · rw [if_neg hl] at e
          obtain ⟨h1, h2, h3, h4⟩ := h _ _ _ _ _ hf
          obtain ⟨l, e1, e2, e3, e4⟩ := star_told h n (acc ++ [x]) r2 s2 v r t e
          refine ⟨x :: l, by rw [e1]; simp, fun y hy => ?_, ?_, ?_⟩
          · rcases List.mem_cons.1 hy with rfl | hy
            · refine ⟨h1, h2, ?_⟩
              rw [h4, List.length_append] at hl
              omega
            · exact e2 y hy
          · rw [h48, h3, e3]; simp
          · rw [h4, e4]; simp
    · rw [if_neg h48] at e
      by_cases h49 : c = 49
      · rw [if_pos h49] at e
        injection e with e
        injection e with e1 e
        injection e with e2 e3
        subst e1 e2 e3 h49
        exact ⟨[], by simp, by simp, by simp, by simp⟩
      · rw [if_neg h49] at e; cases e
theorem one_told {f : Rd} {g : Vl → Bool} (h : Told f g) (k : Int) {bs s : List Nat} {v : Vl} {r t : List Nat} (e : oneT f k bs s = some (v, r, t)) : ∃ x, v = .mk k 0 [x] ∧ g x = true ∧ x.fullB = true ∧ bs = x.put ++ r ∧ s = x.flat ++ t := by
  unfold oneT at e
  cases hf : f bs s with
  | none => rw [hf] at e; cases e
  | some q =>
    obtain ⟨x, b1, s1⟩ := q
    rw [hf] at e
    injection e with e
    injection e with e1 e
    injection e with e2 e3
    subst e1 e2 e3
    exact ⟨x, rfl, h _ _ _ _ _ hf⟩
theorem none_told (g : Vl → Bool) : Told fNone g := fun _ _ _ _ _ e => by cases e
theorem got_told : ∀ (m : Nat) (c : K.Cr), c.count ≤ m → Told (got c) (bel c)
  | 0, c, h => absurd (K.Cr.count_pos c) (by omega)
  | m + 1, .mk k st n cl, h => by
    have kid : ∀ y ∈ cl, Told (got y) (bel y) := fun y hy => got_told m y (by have := K.counts_mem hy; rw [K.count_mk] at h; omega)
    have hget : ∀ (i : Nat), Told ((cl.map got).getD i fNone) ((cl.map bel).getD i (fun _ => false)) := fun i => by
      rw [List.getD_eq_getElem?_getD, List.getElem?_map, List.getD_eq_getElem?_getD, List.getElem?_map]
      cases hi : cl[i]? with
      | none => exact none_told _
      | some y => exact kid y (List.mem_of_getElem? hi)
    intro bs s v r t e
    rw [got_mk] at e
    show bel (.mk k st n cl) v = true ∧ _
    rw [bel_mk]
    unfold gotT at e
    have one : ∀ (kk : Int), kk = 4 ∨ kk = 5 ∨ kk = 7 → ∀ x : Vl, formV kk 0 [x].length = true ∧ (x.fullB = true → (Vl.mk kk 0 [x]).fullB = true) ∧ (Vl.mk kk 0 [x]).flat = x.flat := fun kk hk x => by
      have hf : formV kk 0 [x].length = true := by unfold formV; rcases hk with rfl | rfl | rfl <;> rfl
      refine ⟨hf, fun hx => ?_, ?_⟩
      · rw [full_full hf (by omega)]
        have : (kk != 6) = true := by simp; omega
        simp [hx, this]
      · rw [flat_full hf (by omega)]; simp
    by_cases h1 : k = 1
    · subst h1
      rw [if_pos rfl] at e
      injection e with e
      injection e with e1 e
      injection e with e2 e3
      subst e1 e2 e3
      exact ⟨rfl, rfl, rfl, rfl⟩
    rw [if_neg h1] at e
    by_cases h2 : k = 2
    · subst h2
      rw [if_pos rfl] at e
      cases s with
      | nil => cases e
      | cons b q =>
        unfold setT at e
        simp only at e
        split at e
        · rename_i hb
          injection e with e
          injection e with e1 e
          injection e with e2 e3
          subst e1 e2 e3
          refine ⟨?_, rfl, rfl, rfl⟩
          rw [belT_else (by decide)]
          show (formV 2 b 0 && ((2 : Int) == 2 && st.getLsbD b)) = true
          rw [hb]; rfl
        · cases e
    rw [if_neg h2] at e
    by_cases h3 : k = 3
    · subst h3
      rw [if_pos rfl] at e
      unfold twoT at e
      cases hf : (cl.map got).getD 0 fNone bs s with
      | none => rw [hf] at e; cases e
      | some q =>
        obtain ⟨x, b1, s1⟩ := q
        rw [hf] at e
        simp only at e
        cases hg : (cl.map got).getD 1 fNone b1 s1 with
        | none => rw [hg] at e; cases e
        | some q =>
          obtain ⟨y, b2, s2⟩ := q
          rw [hg] at e
          injection e with e
          injection e with e1 e
          injection e with e2 e3
          subst e1 e2 e3
          obtain ⟨x1, x2, x3, x4⟩ := hget 0 _ _ _ _ _ hf
          obtain ⟨y1, y2, y3, y4⟩ := hget 1 _ _ _ _ _ hg
          have hf : formV 3 0 [x, y].length = true := rfl
          refine ⟨?_, ?_, ?_, ?_⟩
          · rw [belT_else (by decide), hf]
            show (true && ((3 : Int) == 3 && _ && _)) = true
            have e1 : [x, y].getD 0 v0 = x := rfl
            have e2 : [x, y].getD 1 v0 = y := rfl
            rw [e1, e2, x1, y1]; rfl
          · rw [full_full hf (by decide)]
            simp [x2, y2]
          · rw [put_full hf, x3, y3]
            show _ = ([x, y].map Vl.put).flatten ++ _
            simp
          · rw [flat_full hf (by decide), x4, y4]; simp
    rw [if_neg h3] at e
    by_cases h4 : k = 4
    · subst h4
      rw [if_pos rfl] at e
      unfold altT at e
      cases bs with
      | nil => cases e
      | cons c bs =>
        simp only at e
        split at e
        · rename_i hc
          obtain ⟨x, rfl, x1, x2, x3, x4⟩ := one_told (hget 0) 4 e
          obtain ⟨f1, f2, f3⟩ := one 4 (.inl rfl) x
          refine ⟨?_, f2 x2, ?_, by rw [f3]; exact x4⟩
          · rw [belT_else (by decide), f1]
            show (true && ((4 : Int) == 4 && (cl.map bel).getD 0 (fun _ => false) x || (4 : Int) == 5 && (cl.map bel).getD 1 (fun _ => false) x)) = true
            rw [x1]; rfl
          · rw [put_full f1, hc, x3]
            show _ = 48 :: ([x].map Vl.put).flatten ++ _
            simp
        split at e
        · rename_i hc
          obtain ⟨x, rfl, x1, x2, x3, x4⟩ := one_told (hget 1) 5 e
          obtain ⟨f1, f2, f3⟩ := one 5 (.inr (.inl rfl)) x
          refine ⟨?_, f2 x2, ?_, by rw [f3]; exact x4⟩
          · rw [belT_else (by decide), f1]
            show (true && ((5 : Int) == 4 && (cl.map bel).getD 0 (fun _ => false) x || (5 : Int) == 5 && (cl.map bel).getD 1 (fun _ => false) x)) = true
            rw [x1]; rfl
          · rw [put_full f1, hc, x3]
            show _ = 49 :: ([x].map Vl.put).flatten ++ _
            simp
        · cases e
    rw [if_neg h4] at e
    by_cases h5 : k = 5
    · subst h5
      rw [if_pos rfl] at e
      obtain ⟨l, rfl, h2, h3, h4⟩ := star_told (hget 0) _ _ _ _ _ _ _ e
      rw [List.nil_append]
      have hf : formV 6 0 l.length = true := rfl
      refine ⟨?_, ?_, ?_, ?_⟩
      · rw [belT_else (by decide), hf]
        show (true && ((6 : Int) == 6 && l.all _)) = true
        have : l.all ((cl.map bel).getD 0 (fun _ => false)) = true := List.all_eq_true.2 fun x hx => (h2 x hx).1
        rw [this]; rfl
      · rw [full_full hf (by decide)]
        refine List.all_eq_true.2 fun x hx => ?_
        obtain ⟨_, g2, g3⟩ := h2 x hx
        simp [g2, g3]
      · rw [put_full hf, h3]; rfl
      · rw [flat_full hf (by decide), h4]
    rw [if_neg h5] at e
    by_cases h6 : k = 6
    · subst h6
      rw [if_pos rfl] at e
      obtain ⟨x, rfl, x1, x2, x3, x4⟩ := one_told (hget 0) 7 e
      obtain ⟨f1, f2, f3⟩ := one 7 (.inr (.inr rfl)) x
      refine ⟨?_, f2 x2, ?_, by rw [f3]; exact x4⟩
      · rw [belT_else (by decide), f1]
        show (true && ((7 : Int) == 7 && (cl.map bel).getD 0 (fun _ => false) x)) = true
        rw [x1]; rfl
      · rw [put_full f1, x3]
        show _ = ([x].map Vl.put).flatten ++ _
        simp
    rw [if_neg h6] at e
    by_cases h7 : k = 7
    · subst h7
      rw [if_pos rfl] at e
      rw [belT_seven]
      exact hget 0 _ _ _ _ _ e
    · rw [if_neg h7] at e; cases e
/-! what Get answers: a value, or 7; 1 where the core or the text is not one -/
def getV (c : K.Cr) (bs s : List Nat) : Option Vl := match got c bs s with
  | some (v, [], []) => some v
  | _ => none
theorem getV_iff (c : K.Cr) (bs s : List Nat) (v : Vl) : getV c bs s = some v ↔ bel c v = true ∧ v.fullB = true ∧ bs = v.put ∧ s = v.flat := by
  constructor
  · intro h
    unfold getV at h
    split at h
    · rename_i u hg
      injection h with h
      subst h
      have h := got_told _ c (Nat.le_refl _) _ _ _ _ _ hg
      simpa using h
    · cases h
  · rintro ⟨h1, h2, rfl, rfl⟩
    have h := got_put _ c (Nat.le_refl _) v h1 h2 [] []
    rw [List.append_nil, List.append_nil] at h
    unfold getV
    rw [h]
/-- of two values of one core, of texts of which one begins the other, no choices begin the other's but of the same one -/
theorem put_apart {c : K.Cr} {v u : Vl} {p : List Nat} (hv : bel c v = true) (hu : bel c u = true) (fv : v.fullB = true) (fu : u.fullB = true) (hp : u.flat = v.flat ++ p) :
    ((∃ q, u.put = v.put ++ q) ∨ (∃ q, v.put = u.put ++ q)) ↔ v = u := by
  constructor
  · rintro (⟨q, hq⟩ | ⟨q, hq⟩)
    · have h1 := got_put _ c (Nat.le_refl _) v hv fv q p
      have h2 := got_put _ c (Nat.le_refl _) u hu fu [] []
      rw [List.append_nil, List.append_nil, hq, hp, h1] at h2
      injection h2 with h2
      injection h2 with h2 _
    · have h1 := got_put _ c (Nat.le_refl _) v hv fv [] p
      have h2 := got_put _ c (Nat.le_refl _) u hu fu q []
      rw [List.append_nil, ← hq, hp] at h2
      rw [List.append_nil, h2] at h1
      injection h1 with h1
      injection h1 with h1 _
      exact h1.symm
  · rintro rfl
    exact .inl ⟨[], by simp⟩
end V
end Go.Proofs.Ytblgjcolmaidlaa
