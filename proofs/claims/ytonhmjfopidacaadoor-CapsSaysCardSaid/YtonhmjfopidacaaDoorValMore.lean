/- ValFacts, ValInj, BitsMath, BitsKit, as one. -/
import Derived.Test.YtonhmjfopidacaaDoorValGood
import Derived.Test.YtonhmjfopidacaaDoorValText
import Derived.Test.YtonhmjfopidacaaDoorValOps
import Derived.IntWalk
import Derived.Test.YtonhmjfopidacaaDoorBlockMem
import Derived.Maps.AppendAt
namespace Go.Proofs.YtonhmjfopidacaaDoor
namespace V
set_option maxRecDepth 100000
open Go.RowKit
/-! full, over the bytes -/
mutual
def Vl.fullB : Vl → Bool
  | .mk k _ l => if k = 2 then true else ((fullM k l).take (cntN k l.length)).all id
def fullM (k : Int) : List Vl → List Bool
  | [] => []
  | x :: l => (x.fullB && (decide (0 < x.flat.length) || k != 6)) :: fullM k l
end
theorem fullM_eq (k : Int) : ∀ l : List Vl, fullM k l = l.map fun x => x.fullB && (decide (0 < x.flat.length) || k != 6)
  | [] => by rw [fullM]; rfl
  | x :: l => by rw [fullM, fullM_eq k l]; rfl
theorem fullB_mk (k : Int) (b : Nat) (l : List Vl) : (Vl.mk k b l).fullB = if k = 2 then true else (l.take (cntN k l.length)).all fun x => x.fullB && (decide (0 < x.flat.length) || k != 6) := by
  rw [Vl.fullB, fullM_eq, ← List.map_take, List.all_map]; rfl
theorem fold_meas (k : Int) : ∀ (L : List Vl) (a : Nat) (f : Bool), a + (L.flatMap Vl.flat).length < 4611686018427387904 → (∀ y ∈ L, y.meas = ((y.flat.length : Int), y.fullB)) →
    (L.map Vl.meas).foldl (stepM k) ((a : Int), f) = (((a + (L.flatMap Vl.flat).length : Nat) : Int), f && L.all fun x => x.fullB && (decide (0 < x.flat.length) || k != 6))
  | [], a, f, _, _ => by simp
  | x :: L, a, f, ha, h => by
    rw [List.flatMap_cons, List.length_append] at ha
    rw [List.map_cons, List.foldl_cons, h x (by simp)]
    have e : stepM k ((a : Int), f) ((x.flat.length : Int), x.fullB) = (((a + x.flat.length : Nat) : Int), f && x.fullB && (decide (0 < x.flat.length) || (k != 6))) := by
      unfold stepM
      simp only
      rw [IntWalk.wrap64_in _ (by omega)]
      congr 1
      · have : decide ((0 : Int) < (x.flat.length : Int)) = decide (0 < x.flat.length) := by by_cases h : 0 < x.flat.length <;> simp [h]
        rw [this]
    rw [e, fold_meas k L (a + x.flat.length) _ (by omega) (fun y hy => h y (by simp [hy])), List.flatMap_cons, List.length_append, List.all_cons]
    congr 1
    · congr 1; omega
    · simp only [Bool.and_assoc]
theorem meas_flat : ∀ (m : Nat) (x : Vl), x.count ≤ m → m < 4611686018427387904 → x.meas = ((x.flat.length : Int), x.fullB)
  | 0, x, h, _ => absurd (Vl.count_pos x) (by omega)
  | m + 1, .mk k b l, h, hm => by
    rw [meas_mk, flat_mk, fullB_mk]
    split
    · rfl
    · rw [count_mk] at h
      have h1 := fold_meas k (l.take (cntN k l.length)) 0 true (by have := flatTake_le l (cntN k l.length); omega) (fun y hy => meas_flat m y (by have := counts_mem (List.mem_of_mem_take hy); omega) (by omega))
      rw [Nat.zero_add, Bool.true_and] at h1
      exact h1
theorem len_flat {x : Vl} (h : x.count < 4611686018427387904) : x.meas.1 = (x.flat.length : Int) := by rw [meas_flat x.count x (Nat.le_refl _) h]
theorem full_flat {x : Vl} (h : x.count < 4611686018427387904) : x.meas.2 = x.fullB := by rw [meas_flat x.count x (Nat.le_refl _) h]
/-! of a good one all elements count -/
theorem bel_form : ∀ (m : Nat) (c : K.Cr) (v : Vl), c.count ≤ m → bel c v = true → formV v.kind v.byte v.nodes.length = true
  | 0, c, _, h, _ => absurd (K.Cr.count_pos c) (by omega)
  | m + 1, .mk k s n l, v, h, hb => by
    obtain ⟨vk, z, vl⟩ := v
    rw [bel_mk] at hb
    by_cases h7 : k = 7
    · subst h7
      rw [belT_seven] at hb
      match l, h, hb with
      | [], _, hb => simp at hb
      | x :: l, h, hb =>
        rw [K.count_mk, K.counts_cons] at h
        exact bel_form m x _ (by omega) (by simpa using hb)
    · rw [belT_else h7, Bool.and_eq_true] at hb
      exact hb.1
theorem form_cnt {k : Int} {b len : Nat} (h : formV k b len = true) : cntN k len = if k = 2 then 0 else len := by
  unfold formV at h
  rw [Bool.and_eq_true] at h
  have h := h.2
  unfold cntN
  by_cases h12 : k = 1 ∨ k = 2
  · rw [if_pos h12, decide_eq_true_eq] at h
    rw [if_neg (by omega), if_neg (by omega), if_neg (by omega)]
    split <;> omega
  · rw [if_neg h12] at h
    rw [if_neg (show ¬ k = 2 by omega)]
    by_cases h3 : k = 3
    · rw [if_pos h3, decide_eq_true_eq] at h
      rw [if_pos h3]; omega
    · rw [if_neg h3] at h
      rw [if_neg h3]
      by_cases h4 : k = 4 ∨ k = 5 ∨ k = 7
      · rw [if_pos h4, decide_eq_true_eq] at h
        rw [if_pos h4]; omega
      · rw [if_neg h4, decide_eq_true_eq] at h
        rw [if_neg h4, if_pos h]
theorem form_cntd {k : Int} {z : Nat} {l : List Vl} (h : formV k z l.length = true) : cntd (.mk k z l) = l := by
  rw [cntd_mk, form_cnt h]
  split
  · rename_i h2
    subst h2
    have : l.length = 0 := by simpa [formV] using h
    rw [List.length_eq_zero_iff.1 this]; rfl
  · exact List.take_length
/-- a good value's text is none of an unknown kind -/
theorem form_txt {v : Vl} (h : formV v.kind v.byte v.nodes.length = true) : v.txt ≠ [63] := by
  rw [txt_cntd]
  have hk : v.kind = 1 ∨ v.kind = 2 ∨ v.kind = 3 ∨ v.kind = 4 ∨ v.kind = 5 ∨ v.kind = 6 ∨ v.kind = 7 := by
    unfold formV at h
    rw [Bool.and_eq_true] at h
    have h := h.2
    by_cases h12 : v.kind = 1 ∨ v.kind = 2
    · omega
    rw [if_neg h12] at h
    by_cases h3 : v.kind = 3
    · omega
    rw [if_neg h3] at h
    by_cases h4 : v.kind = 4 ∨ v.kind = 5 ∨ v.kind = 7
    · omega
    rw [if_neg h4, decide_eq_true_eq] at h
    omega
  generalize (cntd v).map Vl.txt = ps
  generalize v.kind = k at *
  unfold partsT
  rcases hk with rfl | rfl | rfl | rfl | rfl | rfl | rfl <;> simp [hexT]
end V
end Go.Proofs.YtonhmjfopidacaaDoor
namespace Go.Proofs.YtonhmjfopidacaaDoor
namespace V
set_option maxRecDepth 100000
open Go.RowKit
theorem hexD_inj {a b : Nat} (ha : a < 16) (hb : b < 16) (h : hexD a = hexD b) : a = b := by
  unfold hexD at h
  split at h <;> split at h <;> omega
/-- how texts of good values begin -/
theorem txt_head {v : Vl} (h : formV v.kind v.byte v.nodes.length = true) : ∃ c r, v.txt = c :: r ∧ c ≠ 93 := by
  have hn := form_txt h
  rw [txt_cntd] at hn ⊢
  generalize (cntd v).map Vl.txt = ps at *
  generalize v.kind = k at *
  unfold partsT at hn ⊢
  split
  · exact ⟨_, _, rfl, by decide⟩
  rw [if_neg (by assumption)] at hn
  split
  · refine ⟨_, _, rfl, ?_⟩
    unfold hexD
    split <;> omega
  rw [if_neg (by assumption)] at hn
  split
  · exact ⟨_, _, rfl, by decide⟩
  rw [if_neg (by assumption)] at hn
  split
  · exact ⟨_, _, rfl, by decide⟩
  rw [if_neg (by assumption)] at hn
  split
  · exact ⟨_, _, rfl, by decide⟩
  rw [if_neg (by assumption)] at hn
  split
  · exact ⟨_, _, rfl, by decide⟩
  rw [if_neg (by assumption)] at hn
  split
  · exact ⟨_, _, rfl, by decide⟩
  rw [if_neg (by assumption)] at hn
  exact absurd rfl hn
/-- one reads the other -/
def Reads (c : K.Cr) : Prop := ∀ (v u : Vl) (r s : List Nat), bel c v = true → bel c u = true → v.txt ++ r = u.txt ++ s → v = u ∧ r = s
theorem join_reads {c : K.Cr} (hc : Reads c) : ∀ (l m : List Vl) (r s : List Nat), l.all (bel c) = true → m.all (bel c) = true → joinT (l.map Vl.txt) ++ (93 :: r) = joinT (m.map Vl.txt) ++ (93 :: s) → l = m ∧ r = s
  | [], [], r, s, _, _, h => ⟨rfl, by simpa [joinT] using h⟩
  | [], y :: m, r, s, _, hm, h => by
    rw [List.all_cons, Bool.and_eq_true] at hm
    obtain ⟨c0, r0, e, hne⟩ := txt_head (bel_form _ c y (Nat.le_refl _) hm.1)
    cases m <;> (simp only [List.map_nil, List.map_cons, joinT, e, List.nil_append, List.cons_append] at h; injection h with h1 _; exact absurd h1.symm hne)
  | x :: l, [], r, s, hl, _, h => by
    rw [List.all_cons, Bool.and_eq_true] at hl
    obtain ⟨c0, r0, e, hne⟩ := txt_head (bel_form _ c x (Nat.le_refl _) hl.1)
    cases l <;> (simp only [List.map_nil, List.map_cons, joinT, e, List.nil_append, List.cons_append] at h; injection h with h1 _; exact absurd h1 hne)
  | x :: l, y :: m, r, s, hl, hm, h => by
    rw [List.all_cons, Bool.and_eq_true] at hl hm
    match l, m, hl, hm, h with
    | [], [], hl, hm, h =>
      simp only [List.map_nil, List.map_cons, joinT] at h
      obtain ⟨e1, e2⟩ := hc x y _ _ hl.1 hm.1 h
      injection e2 with _ e2
      exact ⟨by rw [e1], e2⟩
    | [], y2 :: m, hl, hm, h =>
      simp only [List.map_nil, List.map_cons, joinT, List.append_assoc, List.cons_append] at h
      obtain ⟨e1, e2⟩ := hc x y _ _ hl.1 hm.1 h
      injection e2 with e2 _
      cases e2
    | x2 :: l, [], hl, hm, h =>
      simp only [List.map_nil, List.map_cons, joinT, List.append_assoc, List.cons_append] at h
      obtain ⟨e1, e2⟩ := hc x y _ _ hl.1 hm.1 h
      injection e2 with e2 _
      cases e2
    | x2 :: l, y2 :: m, hl, hm, h =>
      rw [List.map_cons, List.map_cons, List.map_cons, List.map_cons, joinT, joinT, List.append_assoc, List.append_assoc, List.cons_append, List.cons_append] at h
      obtain ⟨e1, e2⟩ := hc x y _ _ hl.1 hm.1 h
      injection e2 with _ e2
      rw [← List.map_cons, ← List.map_cons] at e2
      obtain ⟨e3, e4⟩ := join_reads hc (x2 :: l) (y2 :: m) r s hl.2 hm.2 e2
      exact ⟨by rw [e1, e3], e4⟩
theorem form_zero {k : Int} {b len : Nat} (h : formV k b len = true) (hk : k ≠ 2) : b = 0 := by
  unfold formV at h
  rw [Bool.and_eq_true] at h
  have h := h.1
  rw [show (k == 2) = false from by simp [hk], Bool.false_or, decide_eq_true_eq] at h
  exact h
theorem form_len {k : Int} {b len : Nat} (h : formV k b len = true) : (k = 1 ∨ k = 2 → len = 0) ∧ (k = 3 → len = 2) ∧ (k = 4 ∨ k = 5 ∨ k = 7 → len = 1) := by
  unfold formV at h
  rw [Bool.and_eq_true] at h
  have h := h.2
  refine ⟨fun e => ?_, fun e => ?_, fun e => ?_⟩
  · rw [if_pos e] at h; simpa using h
  · subst e
    simpa using h
  · rw [if_neg (by omega), if_neg (by omega), if_pos e] at h; simpa using h
theorem reads_any : ∀ (m : Nat) (c : K.Cr), c.count ≤ m → Reads c
  | 0, c, h => absurd (K.Cr.count_pos c) (by omega)
  | m + 1, .mk k st n cl, h => by
    have kid : ∀ y ∈ cl, Reads y := fun y hy => reads_any m y (by have := K.counts_mem hy; rw [K.count_mk] at h; omega)
    have hnone : ∀ v : Vl, ¬ ((fun _ => false : Vl → Bool) v = true) := fun v h => by cases h
    have hget : ∀ (i : Nat) (v u : Vl) (r s : List Nat), (cl.map bel).getD i (fun _ => false) v = true → (cl.map bel).getD i (fun _ => false) u = true → v.txt ++ r = u.txt ++ s → v = u ∧ r = s := fun i v u r s h1 h2 h3 => by
      rw [List.getD_eq_getElem?_getD, List.getElem?_map] at h1 h2
      cases hi : cl[i]? with
      | none => rw [hi] at h1; cases h1
      | some y =>
        rw [hi] at h1 h2
        exact kid y (List.mem_of_getElem? hi) v u r s h1 h2 h3
    intro v u r s hv hu he
    rw [bel_mk] at hv hu
    by_cases h7 : k = 7
    · subst h7
      rw [belT_seven] at hv hu
      exact hget 0 v u r s hv hu he
    obtain ⟨vk, vz, vl⟩ := v
    obtain ⟨uk, uz, ul⟩ := u
    rw [belT_else h7, Bool.and_eq_true] at hv hu
    obtain ⟨hfv, hv⟩ := hv
    obtain ⟨hfu, hu⟩ := hu
    rw [txt_cntd, txt_cntd, form_cntd hfv, form_cntd hfu] at he
    simp only [Vl.kind, Vl.byte] at he
    have lv := form_len hfv
    have lu := form_len hfu
    unfold belK at hv hu
    by_cases h1 : k = 1
    · rw [if_pos h1, beq_iff_eq] at hv hu
      subst hv hu
      rw [List.length_eq_zero_iff.1 (lv.1 (.inl rfl)), List.length_eq_zero_iff.1 (lu.1 (.inl rfl)), form_zero hfv (by decide), form_zero hfu (by decide)]
      refine ⟨rfl, ?_⟩
      simpa [partsT] using he
    rw [if_neg h1] at hv hu
    by_cases h2 : k = 2
    · rw [if_pos h2, Bool.and_eq_true, beq_iff_eq] at hv hu
      obtain ⟨rfl, hv⟩ := hv
      obtain ⟨rfl, hu⟩ := hu
      have b1 : vz < 256 := by
        apply Classical.byContradiction
        intro hn
        rw [BitVec.getLsbD_of_ge _ _ (by omega)] at hv
        cases hv
      have b2 : uz < 256 := by
        apply Classical.byContradiction
        intro hn
        rw [BitVec.getLsbD_of_ge _ _ (by omega)] at hu
        cases hu
      rw [List.length_eq_zero_iff.1 (lv.1 (.inr rfl)), List.length_eq_zero_iff.1 (lu.1 (.inr rfl))]
      have he : hexT vz ++ r = hexT uz ++ s := he
      unfold hexT at he
      simp only [List.cons_append, List.nil_append, List.cons.injEq] at he
      have e1 := hexD_inj (by omega) (by omega) he.1
      have e2 := hexD_inj (by omega) (by omega) he.2.1
      obtain rfl : vz = uz := by omega
      exact ⟨rfl, he.2.2⟩
    rw [if_neg h2] at hv hu
    by_cases h3 : k = 3
    · rw [if_pos h3, Bool.and_eq_true, Bool.and_eq_true, beq_iff_eq] at hv hu
      obtain ⟨⟨rfl, hv0⟩, hv1⟩ := hv
      obtain ⟨⟨rfl, hu0⟩, hu1⟩ := hu
      match vl, lv.2.1 rfl with
      | [x, y], _ =>
      match ul, lu.2.1 rfl with
      | [x', y'], _ =>
        have he : 40 :: ((x.txt ++ 44 :: y.txt) ++ [41]) ++ r = 40 :: ((x'.txt ++ 44 :: y'.txt) ++ [41]) ++ s := he
        simp only [List.cons_append, List.append_assoc, List.cons.injEq, true_and] at he
        obtain ⟨e1, e2⟩ := hget 0 x x' _ _ hv0 hu0 he
        injection e2 with _ e2
        obtain ⟨e3, e4⟩ := hget 1 y y' _ _ hv1 hu1 e2
        injection e4 with _ e4
        rw [e1, e3, form_zero hfv (by decide), form_zero hfu (by decide)]
        exact ⟨rfl, e4⟩
    rw [if_neg h3] at hv hu
    by_cases h4 : k = 4
    · rw [if_pos h4, Bool.or_eq_true, Bool.and_eq_true, Bool.and_eq_true, beq_iff_eq, beq_iff_eq] at hv hu
      rcases hv with ⟨rfl, hv⟩ | ⟨rfl, hv⟩ <;> rcases hu with ⟨rfl, hu⟩ | ⟨rfl, hu⟩
      · match vl, lv.2.2 (by decide) with
        | [x], _ =>
        match ul, lu.2.2 (by decide) with
        | [x'], _ =>
          have he : 76 :: x.txt ++ r = 76 :: x'.txt ++ s := he
          simp only [List.cons_append, List.cons.injEq, true_and] at he
          obtain ⟨e1, e2⟩ := hget 0 x x' _ _ hv hu he
          rw [e1, form_zero hfv (by decide), form_zero hfu (by decide)]
          exact ⟨rfl, e2⟩
      · exfalso
        have he : 76 :: joinT (vl.map Vl.txt) ++ r = 82 :: joinT (ul.map Vl.txt) ++ s := he
        injection he with he _
        cases he
      · exfalso
        have he : 82 :: joinT (vl.map Vl.txt) ++ r = 76 :: joinT (ul.map Vl.txt) ++ s := he
        injection he with he _
        cases he
      · match vl, lv.2.2 (by decide) with
        | [x], _ =>
        match ul, lu.2.2 (by decide) with
        | [x'], _ =>
          have he : 82 :: x.txt ++ r = 82 :: x'.txt ++ s := he
          simp only [List.cons_append, List.cons.injEq, true_and] at he
          obtain ⟨e1, e2⟩ := hget 1 x x' _ _ hv hu he
          rw [e1, form_zero hfv (by decide), form_zero hfu (by decide)]
          exact ⟨rfl, e2⟩
    rw [if_neg h4] at hv hu
    by_cases h5 : k = 5
    · rw [if_pos h5, Bool.and_eq_true, beq_iff_eq] at hv hu
      obtain ⟨rfl, hv⟩ := hv
      obtain ⟨rfl, hu⟩ := hu
      have he : 91 :: (joinT (vl.map Vl.txt) ++ [93]) ++ r = 91 :: (joinT (ul.map Vl.txt) ++ [93]) ++ s := he
      simp only [List.cons_append, List.append_assoc, List.cons.injEq, true_and, List.nil_append] at he
      cases hcl : cl with
      | nil =>
        rw [hcl] at hv hu
        have hz : ∀ l : List Vl, l.all ((([] : List K.Cr).map bel).getD 0 (fun _ => false)) = true → l = [] := fun l h => by
          cases l with
          | nil => rfl
          | cons x l => simp at h
        rw [hz _ hv, hz _ hu] at he ⊢
        rw [form_zero hfv (by decide), form_zero hfu (by decide)]
        exact ⟨rfl, by simpa [joinT] using he⟩
      | cons y cl' =>
        rw [hcl] at hv hu
        obtain ⟨e1, e2⟩ := join_reads (kid y (by rw [hcl]; simp)) vl ul r s (by simpa using hv) (by simpa using hu) he
        rw [e1, form_zero hfv (by decide), form_zero hfu (by decide)]
        exact ⟨rfl, e2⟩
    rw [if_neg h5] at hv hu
    by_cases h6 : k = 6
    · rw [if_pos h6, Bool.and_eq_true, beq_iff_eq] at hv hu
      obtain ⟨rfl, hv⟩ := hv
      obtain ⟨rfl, hu⟩ := hu
      match vl, lv.2.2 (by decide) with
      | [x], _ =>
      match ul, lu.2.2 (by decide) with
      | [x'], _ =>
        have he : 60 :: (x.txt ++ [62]) ++ r = 60 :: (x'.txt ++ [62]) ++ s := he
        simp only [List.cons_append, List.append_assoc, List.cons.injEq, true_and] at he
        obtain ⟨e1, e2⟩ := hget 0 x x' _ _ hv hu he
        injection e2 with _ e2
        rw [e1, form_zero hfv (by decide), form_zero hfu (by decide)]
        exact ⟨rfl, e2⟩
    · rw [if_neg h6] at hv
      cases hv
theorem txt_same {c : K.Cr} {v u : Vl} (hv : bel c v = true) (hu : bel c u = true) : decide (v.txt = u.txt) = v.same u := by
  by_cases h : v.txt = u.txt
  · have h2 := (reads_any _ c (Nat.le_refl _) v u [] [] hv hu (by rw [h])).1
    rw [h2, Vl.same_refl, decide_eq_true rfl]
  · rw [decide_eq_false h]
    cases hs : v.same u with
    | false => rfl
    | true => exact absurd (by rw [Vl.same_eq v u hs]) h
end V
end Go.Proofs.YtonhmjfopidacaaDoor
namespace Go.Proofs.YtonhmjfopidacaaDoor
namespace V
set_option maxRecDepth 100000
open Go.RowKit
/-- the choices, out of those of the elements -/
def putT (k : Int) (ps : List (List Nat)) : List Nat :=
  if k = 4 then 48 :: ps.flatten else if k = 5 then 49 :: ps.flatten else if k = 6 then ps.flatMap (fun p => 48 :: p) ++ [49] else ps.flatten
mutual
def Vl.put : Vl → List Nat
  | .mk k _ l => putT k ((putM l).take (cntN k l.length))
def putM : List Vl → List (List Nat)
  | [] => []
  | x :: l => x.put :: putM l
end
theorem putM_eq : ∀ l : List Vl, putM l = l.map Vl.put
  | [] => by rw [putM]; rfl
  | x :: l => by rw [putM, putM_eq l]; rfl
theorem put_mk (k : Int) (b : Nat) (l : List Vl) : (Vl.mk k b l).put = putT k ((l.take (cntN k l.length)).map Vl.put) := by
  rw [Vl.put, putM_eq, List.map_take]
theorem put_cntd (x : Vl) : x.put = putT x.kind ((cntd x).map Vl.put) := by
  cases x with
  | mk k z l => rw [put_mk]; rfl
/-! reading -/
abbrev Rd := List Nat → List Nat → Option (Vl × List Nat × List Nat)
def fNone : Rd := fun _ _ => none
def starT (f : Rd) : Nat → List Vl → Rd
  | 0, _, _, _ => none
  | _ + 1, _, [], _ => none
  | n + 1, acc, c :: r, s => if c = 48 then (match f r s with
      | none => none
      | some (x, r2, s2) => if s2.length = s.length then none else starT f n (acc ++ [x]) r2 s2)
    else if c = 49 then some (.mk 6 0 acc, r, s) else none
def oneT (f : Rd) (k : Int) : Rd := fun bs s => match f bs s with
  | none => none
  | some (x, b1, s1) => some (.mk k 0 [x], b1, s1)
def twoT (f g : Rd) : Rd := fun bs s => match f bs s with
  | none => none
  | some (x, b1, s1) => match g b1 s1 with
    | none => none
    | some (y, b2, s2) => some (.mk 3 0 [x, y], b2, s2)
def setT (st : BitVec 256) : Rd := fun bs s => match s with
  | [] => none
  | b :: r => if st.getLsbD b = true then some (.mk 2 b [], bs, r) else none
def altT (f g : Rd) : Rd := fun bs s => match bs with
  | [] => none
  | c :: r => if c = 48 then oneT f 4 r s else if c = 49 then oneT g 5 r s else none
def gotT (k : Int) (st : BitVec 256) (fs : List Rd) : Rd := fun bs s =>
  if k = 1 then some (.mk 1 0 [], bs, s)
  else if k = 2 then setT st bs s
  else if k = 3 then twoT (fs.getD 0 fNone) (fs.getD 1 fNone) bs s
  else if k = 4 then altT (fs.getD 0 fNone) (fs.getD 1 fNone) bs s
  else if k = 5 then starT (fs.getD 0 fNone) (bs.length + 1) [] bs s
  else if k = 6 then oneT (fs.getD 0 fNone) 7 bs s
  else if k = 7 then fs.getD 0 fNone bs s
  else none
mutual
def got : K.Cr → Rd
  | .mk k st _ l => gotT k st (gotM l)
def gotM : List K.Cr → List Rd
  | [] => []
  | x :: l => got x :: gotM l
end
theorem gotM_eq : ∀ l : List K.Cr, gotM l = l.map got
  | [] => by rw [gotM]; rfl
  | x :: l => by rw [gotM, gotM_eq l]; rfl
theorem got_mk (k : Int) (st : BitVec 256) (n : Int) (l : List K.Cr) : got (.mk k st n l) = gotT k st (l.map got) := by
  rw [got, gotM_eq]
/-! what is put is got -/
def Gets (f : Rd) (v : Vl) : Prop := ∀ r t : List Nat, f (v.put ++ r) (v.flat ++ t) = some (v, r, t)
theorem star_gets {f : Rd} : ∀ (l : List Vl) (n : Nat) (acc : List Vl) (r t : List Nat), l.length < n → (∀ x ∈ l, Gets f x ∧ 0 < x.flat.length) →
    starT f n acc ((l.map Vl.put).flatMap (fun p => 48 :: p) ++ [49] ++ r) (l.flatMap Vl.flat ++ t) = some (.mk 6 0 (acc ++ l), r, t)
  | [], n + 1, acc, r, t, _, _ => by
    show starT f (n + 1) acc (49 :: r) t = _
    rw [starT, if_neg (by decide), if_pos rfl, List.append_nil]
  | x :: l, n + 1, acc, r, t, hn, h => by
    have h0 := h x (by simp)
    have e1 : ((x :: l).map Vl.put).flatMap (fun p => 48 :: p) ++ [49] ++ r = 48 :: (x.put ++ ((l.map Vl.put).flatMap (fun p => 48 :: p) ++ [49] ++ r)) := by simp
    have e2 : (x :: l).flatMap Vl.flat ++ t = x.flat ++ (l.flatMap Vl.flat ++ t) := by simp
    rw [e1, e2, starT, if_pos rfl, h0.1]
    show (if (l.flatMap Vl.flat ++ t).length = (x.flat ++ (l.flatMap Vl.flat ++ t)).length then none else _) = _
    rw [if_neg (by simp only [List.length_append]; omega), star_gets l n (acc ++ [x]) r t (by simpa using hn) (fun y hy => h y (by simp [hy]))]
    simp
theorem one_gets {f : Rd} {x : Vl} (h : Gets f x) (k : Int) (r t : List Nat) : oneT f k (x.put ++ r) (x.flat ++ t) = some (.mk k 0 [x], r, t) := by
  unfold oneT
  rw [h]
theorem put_len (l : List Vl) : l.length ≤ ((l.map Vl.put).flatMap (fun p => 48 :: p)).length := by
  induction l with
  | nil => simp
  | cons x l ih => simp only [List.map_cons, List.flatMap_cons, List.length_append, List.length_cons]; omega
theorem put_full {k : Int} {z : Nat} {l : List Vl} (h : formV k z l.length = true) : (Vl.mk k z l).put = putT k (l.map Vl.put) := by
  rw [put_cntd, form_cntd h]; rfl
theorem flat_full {k : Int} {z : Nat} {l : List Vl} (h : formV k z l.length = true) (h2 : k ≠ 2) : (Vl.mk k z l).flat = l.flatMap Vl.flat := by
  rw [flat_mk, if_neg h2]
  have e := form_cntd h
  rw [cntd_mk] at e
  rw [e]
theorem full_full {k : Int} {z : Nat} {l : List Vl} (h : formV k z l.length = true) (h2 : k ≠ 2) : (Vl.mk k z l).fullB = l.all fun x => x.fullB && (decide (0 < x.flat.length) || k != 6) := by
  rw [fullB_mk, if_neg h2]
  have e := form_cntd h
  rw [cntd_mk] at e
  rw [e]
theorem got_put : ∀ (m : Nat) (c : K.Cr), c.count ≤ m → ∀ v : Vl, bel c v = true → v.fullB = true → Gets (got c) v
  | 0, c, h => absurd (K.Cr.count_pos c) (by omega)
  | m + 1, .mk k st n cl, h => by
    have kid : ∀ y ∈ cl, ∀ v : Vl, bel y v = true → v.fullB = true → Gets (got y) v := fun y hy => got_put m y (by have := K.counts_mem hy; rw [K.count_mk] at h; omega)
    have hget : ∀ (i : Nat) (v : Vl), (cl.map bel).getD i (fun _ => false) v = true → v.fullB = true → Gets ((cl.map got).getD i fNone) v := fun i v h1 h2 => by
      rw [List.getD_eq_getElem?_getD, List.getElem?_map] at h1 ⊢
      cases hi : cl[i]? with
      | none => rw [hi] at h1; cases h1
      | some y =>
        rw [hi] at h1
        exact kid y (List.mem_of_getElem? hi) v h1 h2
    intro v hv hf
    rw [bel_mk] at hv
    rw [got_mk]
    by_cases h7 : k = 7
    · subst h7
      rw [belT_seven] at hv
      exact hget 0 v hv hf
    obtain ⟨vk, vz, vl⟩ := v
    rw [belT_else h7, Bool.and_eq_true] at hv
    obtain ⟨hfv, hv⟩ := hv
    have lv := form_len hfv
    have e0 := form_zero hfv
    intro r t
    unfold belK at hv
    unfold gotT
    by_cases h1 : k = 1
    · rw [if_pos h1, beq_iff_eq] at hv
      subst hv
      rw [if_pos h1, put_full hfv, flat_full hfv (by decide), e0 (by decide), List.length_eq_zero_iff.1 (lv.1 (.inl rfl))]
      rfl
    rw [if_neg h1] at hv
    rw [if_neg h1]
    by_cases h2 : k = 2
    · rw [if_pos h2, Bool.and_eq_true, beq_iff_eq] at hv
      obtain ⟨rfl, hv⟩ := hv
      rw [if_pos h2, put_full hfv, List.length_eq_zero_iff.1 (lv.1 (.inr rfl)), flat_mk, if_pos rfl]
      show (if st.getLsbD vz = true then _ else _) = _
      rw [if_pos hv]; rfl
    rw [if_neg h2] at hv
    rw [if_neg h2]
    by_cases h3 : k = 3
    · rw [if_pos h3, Bool.and_eq_true, Bool.and_eq_true, beq_iff_eq] at hv
      obtain ⟨⟨rfl, hv0⟩, hv1⟩ := hv
      rw [full_full hfv (by decide)] at hf
      rw [if_pos h3, put_full hfv, flat_full hfv (by decide), e0 (by decide)]
      match vl, lv.2.1 rfl with
      | [x, y], _ =>
        simp only [List.all_cons, List.all_nil, Bool.and_true, Bool.and_eq_true] at hf
        have g0 := hget 0 x hv0 hf.1.1
        have g1 := hget 1 y hv1 hf.2.1
        have e1 : putT 3 ([x, y].map Vl.put) ++ r = x.put ++ (y.put ++ r) := by show (([x, y].map Vl.put).flatten) ++ r = _; simp
        have e2 : [x, y].flatMap Vl.flat ++ t = x.flat ++ (y.flat ++ t) := by simp
        rw [e1, e2]
        unfold twoT
        rw [g0]
        simp only
        rw [g1]
    rw [if_neg h3] at hv
    rw [if_neg h3]
    by_cases h4 : k = 4
    · rw [if_pos h4, Bool.or_eq_true, Bool.and_eq_true, Bool.and_eq_true, beq_iff_eq, beq_iff_eq] at hv
      rw [if_pos h4]
      rcases hv with ⟨rfl, hv⟩ | ⟨rfl, hv⟩
      · rw [full_full hfv (by decide)] at hf
        rw [put_full hfv, flat_full hfv (by decide), e0 (by decide)]
        match vl, lv.2.2 (by decide) with
        | [x], _ =>
          simp only [List.all_cons, List.all_nil, Bool.and_true, Bool.and_eq_true] at hf
          have e1 : putT 4 ([x].map Vl.put) ++ r = 48 :: (x.put ++ r) := by show 48 :: (([x].map Vl.put).flatten) ++ r = _; simp
          have e2 : [x].flatMap Vl.flat ++ t = x.flat ++ t := by simp
          rw [e1, e2]
          exact one_gets (hget 0 x hv hf.1) 4 r t
      · rw [full_full hfv (by decide)] at hf
        rw [put_full hfv, flat_full hfv (by decide), e0 (by decide)]
        match vl, lv.2.2 (by decide) with
        | [x], _ =>
          simp only [List.all_cons, List.all_nil, Bool.and_true, Bool.and_eq_true] at hf
          have e1 : putT 5 ([x].map Vl.put) ++ r = 49 :: (x.put ++ r) := by show 49 :: (([x].map Vl.put).flatten) ++ r = _; simp
          have e2 : [x].flatMap Vl.flat ++ t = x.flat ++ t := by simp
          rw [e1, e2]
          exact one_gets (hget 1 x hv hf.1) 5 r t
    rw [if_neg h4] at hv
    rw [if_neg h4]
    by_cases h5 : k = 5
    · rw [if_pos h5, Bool.and_eq_true, beq_iff_eq] at hv
      obtain ⟨rfl, hv⟩ := hv
      rw [full_full hfv (by decide), List.all_eq_true] at hf
      rw [List.all_eq_true] at hv
      rw [if_pos h5, put_full hfv, flat_full hfv (by decide), e0 (by decide)]
      have e1 : putT 6 (vl.map Vl.put) = (vl.map Vl.put).flatMap (fun p => 48 :: p) ++ [49] := rfl
      rw [e1]
      have h := star_gets (f := (cl.map got).getD 0 fNone) vl (((vl.map Vl.put).flatMap (fun p => 48 :: p) ++ [49] ++ r).length + 1) [] r t (by have := put_len vl; simp only [List.length_append]; omega) (fun x hx => by
        have h1 := hf x hx
        simp only [Bool.and_eq_true, Bool.or_eq_true, decide_eq_true_eq] at h1
        exact ⟨hget 0 x (hv x hx) h1.1, h1.2.resolve_right (by decide)⟩)
      rw [h, List.nil_append]
    rw [if_neg h5] at hv
    rw [if_neg h5]
    by_cases h6 : k = 6
    · rw [if_pos h6, Bool.and_eq_true, beq_iff_eq] at hv
      obtain ⟨rfl, hv⟩ := hv
      rw [full_full hfv (by decide)] at hf
      rw [if_pos h6, put_full hfv, flat_full hfv (by decide), e0 (by decide)]
      match vl, lv.2.2 (by decide) with
      | [x], _ =>
        simp only [List.all_cons, List.all_nil, Bool.and_true, Bool.and_eq_true] at hf
        have e1 : putT 7 ([x].map Vl.put) ++ r = x.put ++ r := by show (([x].map Vl.put).flatten) ++ r = _; simp
        have e2 : [x].flatMap Vl.flat ++ t = x.flat ++ t := by simp
        rw [e1, e2]
        exact one_gets (hget 0 x hv hf.1) 7 r t
    · rw [if_neg h6] at hv
      cases hv
/-! what is got was put -/
def Told (f : Rd) (g : Vl → Bool) : Prop := ∀ (bs s : List Nat) (v : Vl) (r t : List Nat), f bs s = some (v, r, t) → g v = true ∧ v.fullB = true ∧ bs = v.put ++ r ∧ s = v.flat ++ t
theorem star_told {f : Rd} {g : Vl → Bool} (h : Told f g) : ∀ (n : Nat) (acc : List Vl) (bs s : List Nat) (v : Vl) (r t : List Nat), starT f n acc bs s = some (v, r, t) →
    ∃ l : List Vl, v = .mk 6 0 (acc ++ l) ∧ (∀ x ∈ l, g x = true ∧ x.fullB = true ∧ 0 < x.flat.length) ∧ bs = (l.map Vl.put).flatMap (fun p => 48 :: p) ++ [49] ++ r ∧ s = l.flatMap Vl.flat ++ t
  | 0, _, _, _, _, _, _, e => by rw [starT] at e; cases e
  | n + 1, _, [], _, _, _, _, e => by rw [starT] at e; cases e
  | n + 1, acc, c :: bs, s, v, r, t, e => by
    rw [starT] at e
    by_cases h48 : c = 48
    · rw [if_pos h48] at e
      cases hf : f bs s with
      | none => rw [hf] at e; cases e
      | some q =>
        obtain ⟨x, r2, s2⟩ := q
        rw [hf] at e
        simp only at e
        by_cases hl : s2.length = s.length
        · rw [if_pos hl] at e; cases e
        · rw [if_neg hl] at e
          obtain ⟨h1, h2, h3, h4⟩ := h _ _ _ _ _ hf
          obtain ⟨l, e1, e2, e3, e4⟩ := star_told h n (acc ++ [x]) r2 s2 v r t e
          refine ⟨x :: l, by rw [e1]; simp, fun y hy => ?_, ?_, ?_⟩
          · rcases List.mem_cons.1 hy with rfl | hy
            · refine ⟨h1, h2, ?_⟩
              rw [h4, List.length_append] at hl
              omega
            · exact e2 y hy
          · rw [h48, h3, e3]; simp
          · rw [h4, e4]; simp
    · rw [if_neg h48] at e
      by_cases h49 : c = 49
      · rw [if_pos h49] at e
        injection e with e
        injection e with e1 e
        injection e with e2 e3
        subst e1 e2 e3 h49
        exact ⟨[], by simp, by simp, by simp, by simp⟩
      · rw [if_neg h49] at e; cases e
theorem one_told {f : Rd} {g : Vl → Bool} (h : Told f g) (k : Int) {bs s : List Nat} {v : Vl} {r t : List Nat} (e : oneT f k bs s = some (v, r, t)) : ∃ x, v = .mk k 0 [x] ∧ g x = true ∧ x.fullB = true ∧ bs = x.put ++ r ∧ s = x.flat ++ t := by
  unfold oneT at e
  cases hf : f bs s with
  | none => rw [hf] at e; cases e
  | some q =>
    obtain ⟨x, b1, s1⟩ := q
    rw [hf] at e
    injection e with e
    injection e with e1 e
    injection e with e2 e3
    subst e1 e2 e3
    exact ⟨x, rfl, h _ _ _ _ _ hf⟩
theorem none_told (g : Vl → Bool) : Told fNone g := fun _ _ _ _ _ e => by cases e
theorem got_told : ∀ (m : Nat) (c : K.Cr), c.count ≤ m → Told (got c) (bel c)
  | 0, c, h => absurd (K.Cr.count_pos c) (by omega)
  | m + 1, .mk k st n cl, h => by
    have kid : ∀ y ∈ cl, Told (got y) (bel y) := fun y hy => got_told m y (by have := K.counts_mem hy; rw [K.count_mk] at h; omega)
    have hget : ∀ (i : Nat), Told ((cl.map got).getD i fNone) ((cl.map bel).getD i (fun _ => false)) := fun i => by
      rw [List.getD_eq_getElem?_getD, List.getElem?_map, List.getD_eq_getElem?_getD, List.getElem?_map]
      cases hi : cl[i]? with
      | none => exact none_told _
      | some y => exact kid y (List.mem_of_getElem? hi)
    intro bs s v r t e
    rw [got_mk] at e
    show bel (.mk k st n cl) v = true ∧ _
    rw [bel_mk]
    unfold gotT at e
    have one : ∀ (kk : Int), kk = 4 ∨ kk = 5 ∨ kk = 7 → ∀ x : Vl, formV kk 0 [x].length = true ∧ (x.fullB = true → (Vl.mk kk 0 [x]).fullB = true) ∧ (Vl.mk kk 0 [x]).flat = x.flat := fun kk hk x => by
      have hf : formV kk 0 [x].length = true := by unfold formV; rcases hk with rfl | rfl | rfl <;> rfl
      refine ⟨hf, fun hx => ?_, ?_⟩
      · rw [full_full hf (by omega)]
        have : (kk != 6) = true := by simp; omega
        simp [hx, this]
      · rw [flat_full hf (by omega)]; simp
    by_cases h1 : k = 1
    · subst h1
      rw [if_pos rfl] at e
      injection e with e
      injection e with e1 e
      injection e with e2 e3
      subst e1 e2 e3
      exact ⟨rfl, rfl, rfl, rfl⟩
    rw [if_neg h1] at e
    by_cases h2 : k = 2
    · subst h2
      rw [if_pos rfl] at e
      cases s with
      | nil => cases e
      | cons b q =>
        unfold setT at e
        simp only at e
        split at e
        · rename_i hb
          injection e with e
          injection e with e1 e
          injection e with e2 e3
          subst e1 e2 e3
          refine ⟨?_, rfl, rfl, rfl⟩
          rw [belT_else (by decide)]
          show (formV 2 b 0 && ((2 : Int) == 2 && st.getLsbD b)) = true
          rw [hb]; rfl
        · cases e
    rw [if_neg h2] at e
    by_cases h3 : k = 3
    · subst h3
      rw [if_pos rfl] at e
      unfold twoT at e
      cases hf : (cl.map got).getD 0 fNone bs s with
      | none => rw [hf] at e; cases e
      | some q =>
        obtain ⟨x, b1, s1⟩ := q
        rw [hf] at e
        simp only at e
        cases hg : (cl.map got).getD 1 fNone b1 s1 with
        | none => rw [hg] at e; cases e
        | some q =>
          obtain ⟨y, b2, s2⟩ := q
          rw [hg] at e
          injection e with e
          injection e with e1 e
          injection e with e2 e3
          subst e1 e2 e3
          obtain ⟨x1, x2, x3, x4⟩ := hget 0 _ _ _ _ _ hf
          obtain ⟨y1, y2, y3, y4⟩ := hget 1 _ _ _ _ _ hg
          have hf : formV 3 0 [x, y].length = true := rfl
          refine ⟨?_, ?_, ?_, ?_⟩
          · rw [belT_else (by decide), hf]
            show (true && ((3 : Int) == 3 && _ && _)) = true
            have e1 : [x, y].getD 0 v0 = x := rfl
            have e2 : [x, y].getD 1 v0 = y := rfl
            rw [e1, e2, x1, y1]; rfl
          · rw [full_full hf (by decide)]
            simp [x2, y2]
          · rw [put_full hf, x3, y3]
            show _ = ([x, y].map Vl.put).flatten ++ _
            simp
          · rw [flat_full hf (by decide), x4, y4]; simp
    rw [if_neg h3] at e
    by_cases h4 : k = 4
    · subst h4
      rw [if_pos rfl] at e
      unfold altT at e
      cases bs with
      | nil => cases e
      | cons c bs =>
        simp only at e
        split at e
        · rename_i hc
          obtain ⟨x, rfl, x1, x2, x3, x4⟩ := one_told (hget 0) 4 e
          obtain ⟨f1, f2, f3⟩ := one 4 (.inl rfl) x
          refine ⟨?_, f2 x2, ?_, by rw [f3]; exact x4⟩
          · rw [belT_else (by decide), f1]
            show (true && ((4 : Int) == 4 && (cl.map bel).getD 0 (fun _ => false) x || (4 : Int) == 5 && (cl.map bel).getD 1 (fun _ => false) x)) = true
            rw [x1]; rfl
          · rw [put_full f1, hc, x3]
            show _ = 48 :: ([x].map Vl.put).flatten ++ _
            simp
        split at e
        · rename_i hc
          obtain ⟨x, rfl, x1, x2, x3, x4⟩ := one_told (hget 1) 5 e
          obtain ⟨f1, f2, f3⟩ := one 5 (.inr (.inl rfl)) x
          refine ⟨?_, f2 x2, ?_, by rw [f3]; exact x4⟩
          · rw [belT_else (by decide), f1]
            show (true && ((5 : Int) == 4 && (cl.map bel).getD 0 (fun _ => false) x || (5 : Int) == 5 && (cl.map bel).getD 1 (fun _ => false) x)) = true
            rw [x1]; rfl
          · rw [put_full f1, hc, x3]
            show _ = 49 :: ([x].map Vl.put).flatten ++ _
            simp
        · cases e
    rw [if_neg h4] at e
    by_cases h5 : k = 5
    · subst h5
      rw [if_pos rfl] at e
      obtain ⟨l, rfl, h2, h3, h4⟩ := star_told (hget 0) _ _ _ _ _ _ _ e
      rw [List.nil_append]
      have hf : formV 6 0 l.length = true := rfl
      refine ⟨?_, ?_, ?_, ?_⟩
      · rw [belT_else (by decide), hf]
        show (true && ((6 : Int) == 6 && l.all _)) = true
        have : l.all ((cl.map bel).getD 0 (fun _ => false)) = true := List.all_eq_true.2 fun x hx => (h2 x hx).1
        rw [this]; rfl
      · rw [full_full hf (by decide)]
        refine List.all_eq_true.2 fun x hx => ?_
        obtain ⟨_, g2, g3⟩ := h2 x hx
        simp [g2, g3]
      · rw [put_full hf, h3]; rfl
      · rw [flat_full hf (by decide), h4]
    rw [if_neg h5] at e
    by_cases h6 : k = 6
    · subst h6
      rw [if_pos rfl] at e
      obtain ⟨x, rfl, x1, x2, x3, x4⟩ := one_told (hget 0) 7 e
      obtain ⟨f1, f2, f3⟩ := one 7 (.inr (.inr rfl)) x
      refine ⟨?_, f2 x2, ?_, by rw [f3]; exact x4⟩
      · rw [belT_else (by decide), f1]
        show (true && ((7 : Int) == 7 && (cl.map bel).getD 0 (fun _ => false) x)) = true
        rw [x1]; rfl
      · rw [put_full f1, x3]
        show _ = ([x].map Vl.put).flatten ++ _
        simp
    rw [if_neg h6] at e
    by_cases h7 : k = 7
    · subst h7
      rw [if_pos rfl] at e
      rw [belT_seven]
      exact hget 0 _ _ _ _ _ e
    · rw [if_neg h7] at e; cases e
/-! what Get answers: a value, or 7; 1 where the core or the text is not one -/
def getV (c : K.Cr) (bs s : List Nat) : Option Vl := match got c bs s with
  | some (v, [], []) => some v
  | _ => none
theorem getV_iff (c : K.Cr) (bs s : List Nat) (v : Vl) : getV c bs s = some v ↔ bel c v = true ∧ v.fullB = true ∧ bs = v.put ∧ s = v.flat := by
  constructor
  · intro h
    unfold getV at h
    split at h
    · rename_i u hg
      injection h with h
      subst h
      have h := got_told _ c (Nat.le_refl _) _ _ _ _ _ hg
      simpa using h
    · cases h
  · rintro ⟨h1, h2, rfl, rfl⟩
    have h := got_put _ c (Nat.le_refl _) v h1 h2 [] []
    rw [List.append_nil, List.append_nil] at h
    unfold getV
    rw [h]
/-- of two values of one core, of texts of which one begins the other, no choices begin the other's but of the same one -/
theorem put_apart {c : K.Cr} {v u : Vl} {p : List Nat} (hv : bel c v = true) (hu : bel c u = true) (fv : v.fullB = true) (fu : u.fullB = true) (hp : u.flat = v.flat ++ p) :
    ((∃ q, u.put = v.put ++ q) ∨ (∃ q, v.put = u.put ++ q)) ↔ v = u := by
  constructor
  · rintro (⟨q, hq⟩ | ⟨q, hq⟩)
    · have h1 := got_put _ c (Nat.le_refl _) v hv fv q p
      have h2 := got_put _ c (Nat.le_refl _) u hu fu [] []
      rw [List.append_nil, List.append_nil, hq, hp, h1] at h2
      injection h2 with h2
      injection h2 with h2 _
    · have h1 := got_put _ c (Nat.le_refl _) v hv fv [] p
      have h2 := got_put _ c (Nat.le_refl _) u hu fu q []
      rw [List.append_nil, ← hq, hp] at h2
      rw [List.append_nil, h2] at h1
      injection h1 with h1
      injection h1 with h1 _
      exact h1.symm
  · rintro rfl
    exact .inl ⟨[], by simp⟩
end V
end Go.Proofs.YtonhmjfopidacaaDoor
namespace Go.Proofs.YtonhmjfopidacaaDoor
namespace V
set_option maxRecDepth 100000
open Go.RowKit
/-- a world of which only the blocks with p can be read -/
def dim (p : Nat → Bool) (w : World) : World := { w with heap := w.heap.mapIdx fun i o => if p i then o else .deferred none }
theorem dim_size (p : Nat → Bool) (w : World) : (dim p w).heap.size = w.heap.size := by simp [dim]
theorem dim_block {p : Nat → Bool} {w : World} {k : Nat} (h : p k = true) : (dim p w).heap[k]? = w.heap[k]? := by
  simp only [dim, Array.getElem?_mapIdx]
  cases hk : w.heap[k]? with
  | none => rfl
  | some o => simp [h]
theorem dim_cell {p : Nat → Bool} {w : World} {a : Addr} {v : Value} (h : (dim p w).cell? a = some v) : p a.block = true ∧ w.cell? a = some v := by
  cases hp : p a.block with
  | true => exact ⟨rfl, by rw [← h]; exact (World.cell?_of_block (dim_block hp)).symm⟩
  | false =>
    exfalso
    unfold World.cell? at h
    simp only [dim, Array.getElem?_mapIdx, hp] at h
    cases hk : w.heap[a.block]? with
    | none => rw [hk] at h; cases h
    | some o => rw [hk] at h; cases h
mutual
theorem Vl.at_move {w w' : World} (h : ∀ p v, w.cell? p = some v → w'.cell? p = some v) (hs : w.heap.size ≤ w'.heap.size) : ∀ (x : Vl) (cs : List Value), Vl.at w x cs → Vl.at w' x cs
  | .mk k z l, cs, ha => by
    rw [at_mk] at ha ⊢
    obtain ⟨h1, h4, a, cap, h5, h6, h7⟩ := ha
    refine ⟨h1, h4, a, cap, h5, h6, ?_⟩
    rcases h7 with h7 | ⟨b, off, e1, e2, e3, e4⟩
    · exact .inl h7
    · exact .inr ⟨b, off, e1, e2, Nat.lt_of_lt_of_le e3 hs, valsAt_move h hs l b off e4⟩
theorem valsAt_move {w w' : World} (h : ∀ p v, w.cell? p = some v → w'.cell? p = some v) (hs : w.heap.size ≤ w'.heap.size) : ∀ (l : List Vl) (b off : Nat), valsAt w l b off → valsAt w' l b off
  | [], b, off, _ => by rw [valsAt_nil]; trivial
  | x :: l, b, off, ha => by
    rw [valsAt_cons] at ha ⊢
    obtain ⟨⟨cs, h1, h2, h3⟩, h4⟩ := ha
    refine ⟨⟨cs, h1, fun q hq => ?_, Vl.at_move h hs x cs h3⟩, valsAt_move h hs l b (off + 3) h4⟩
    have h5 := h2 q hq
    rw [List.getElem?_eq_getElem (by omega)] at h5 ⊢
    exact h _ _ h5
end
/-- a value that hangs on blocks with p alone -/
def ValOn (p : Nat → Bool) (w : World) (x : Vl) (cs : List Value) : Prop := Vl.at (dim p w) x cs
theorem ValOn.mono {p q : Nat → Bool} {w w' : World} {x : Vl} {cs : List Value} (h : ValOn p w x cs) (hs : w.heap.size ≤ w'.heap.size) (hk : ∀ k, p k = true → k < w.heap.size → q k = true ∧ w'.heap[k]? = w.heap[k]?) : ValOn q w' x cs := by
  refine Vl.at_move (fun a v ha => ?_) (by rw [dim_size, dim_size]; exact hs) x cs h
  obtain ⟨h1, h2⟩ := dim_cell ha
  have h3 := hk _ h1 (World.block_lt_of_cell? w _ h2)
  rw [World.cell?_of_block (dim_block h3.1), World.cell?_of_block h3.2]
  exact h2
theorem ValOn.at {p : Nat → Bool} {w : World} {x : Vl} {cs : List Value} (h : ValOn p w x cs) : Vl.at w x cs :=
  Vl.at_move (fun _ _ ha => (dim_cell ha).2) (by rw [dim_size]; exact Nat.le_refl _) x cs h
theorem ValOn.plain (p : Nat → Bool) (w : World) {k : Int} {z : Nat} (hk : fits64 k) (hz : z < 256) : ValOn p w (.mk k z []) [.int .i64 k, .int .u8 z, .slice none 0 0] := at_plain hk hz
/-- from block B on -/
abbrev fromV (B : Nat) : Nat → Bool := fun k => decide (B ≤ k)
theorem ValOn.below {B : Nat} {w w' : World} {x : Vl} {cs : List Value} (h : ValOn (fromV B) w x cs) (hb : Below w.heap.size w w') : ValOn (fromV B) w' x cs :=
  h.mono hb.size fun k h1 h2 => ⟨h1, hb.block k h2⟩
/-- blocks R and g apart, all that is there is as before -/
structure Kept (R g : Nat) (w w' : World) : Prop where
  os : w'.os = w.os
  tape : w'.tape = w.tape
  output : w'.output = w.output
  size : w.heap.size ≤ w'.heap.size
  block : ∀ k, k < w.heap.size → k ≠ R → k ≠ g → w'.heap[k]? = w.heap[k]?
theorem Kept.refl (R g : Nat) (w : World) : Kept R g w w := ⟨rfl, rfl, rfl, Nat.le_refl _, fun _ _ _ _ => rfl⟩
theorem Kept.trans {R g : Nat} {a b c : World} (h : Kept R g a b) (h' : Kept R g b c) : Kept R g a c :=
  ⟨h'.os.trans h.os, h'.tape.trans h.tape, h'.output.trans h.output, Nat.le_trans h.size h'.size, fun k hk hR hg => (h'.block k (Nat.lt_of_lt_of_le hk h.size) hR hg).trans (h.block k hk hR hg)⟩
theorem Kept.of_below {R g : Nat} {w w' : World} (h : Below w.heap.size w w') : Kept R g w w' := ⟨h.os, h.tape, h.output, h.size, fun k hk _ _ => h.block k hk⟩
theorem Kept.of_only {R g : Nat} {w w' : World} (h : Only R w w') : Kept R g w w' := ⟨h.os, h.tape, h.output, Nat.le_of_eq h.size.symm, fun k _ hR _ => h.block k hR⟩
theorem Kept.more {R g : Nat} {w w' : World} (h : Kept R R w w') : Kept R g w w' := ⟨h.os, h.tape, h.output, h.size, fun k hk hR _ => h.block k hk hR hR⟩
/-- what was made later may turn -/
theorem Kept.less {R g : Nat} {w w1 w' : World} (h : Kept R R w w1) (h' : Kept R g w1 w') (hg : w.heap.size ≤ g) : Kept R R w w' :=
  ⟨h'.os.trans h.os, h'.tape.trans h.tape, h'.output.trans h.output, Nat.le_trans h.size h'.size, fun k hk hR _ => (h'.block k (Nat.lt_of_lt_of_le hk h.size) hR (by omega)).trans (h.block k hk hR hR)⟩
theorem Kept.below {B R g : Nat} {a w w' : World} (h : Kept R g w w') (hb : Below B a w) (hR : B ≤ R) (hg : B ≤ g) (hs : B ≤ w.heap.size) : Below B a w' :=
  hb.trans ⟨h.os, h.tape, h.output, h.size, fun k hk => h.block k (Nat.lt_of_lt_of_le hk hs) (by omega) (by omega)⟩
theorem Kept.only {R g c : Nat} {w w' w'' : World} (h : Kept R g w w') (ho : Only c w' w'') (hc : w.heap.size ≤ c) : Kept R g w w'' :=
  ⟨ho.os.trans h.os, ho.tape.trans h.tape, ho.output.trans h.output, by rw [ho.size]; exact h.size, fun k hk hR hg => (ho.block k (by omega)).trans (h.block k hk hR hg)⟩
theorem Kept.val {R g : Nat} {w w' : World} (h : Kept R g w w') {b : Nat} {cs : Array Value} (hv : ValIn w b cs) (hR : b ≠ R) (hg : b ≠ g) : ValIn w' b cs :=
  (h.block b (lt_of_block hv) hR hg).trans hv
theorem Kept.core {R g : Nat} {w w' : World} (h : Kept R g w w') {b : Nat} {cs : Array Value} (hv : K.CoreIn w b cs) (hR : b ≠ R) (hg : b ≠ g) : K.CoreIn w' b cs :=
  (h.block b (lt_of_block hv) hR hg).trans hv
/-- bytes behind the first -/
theorem bytes_tail {w : World} {b off n cap : Nat} {x : Nat} {l : List Nat} (h : BytesAt w (some ⟨b, off, none⟩) (n + 1) cap (x :: l)) {a' : Addr} {c' : Nat} (ha : cap = 1 ∨ a' = (⟨b, off + 1, none⟩ : Addr)) (hc : c' = cap - 1) : BytesAt w (some a') n c' l := by
  obtain ⟨h1, h2, h3, h4⟩ := h
  have hn : n = l.length := by simpa using h1
  refine ⟨hn, fun y hy => h2 y (by simp [hy]), by omega, ?_⟩
  by_cases h0 : n = 0
  · exact .inl h0
  · rcases h4 with h4 | ⟨b', off', e, hcap, hlt, hr⟩
    · omega
    · cases e
      rcases ha with ha | rfl
      · omega
      · refine .inr ⟨b, off + 1, rfl, by omega, hlt, fun j hj => ?_⟩
        have := hr (j + 1) (by omega)
        rw [show off + 1 + j = off + (j + 1) from by omega, this]
        simp
theorem bytes_first {w : World} {a : Option Addr} {n cap : Nat} {x : Nat} {l : List Nat} (h : BytesAt w a n cap (x :: l)) : n = l.length + 1 ∧ x < 256 ∧ n ≤ maxLen ∧ ∃ b off, a = some ⟨b, off, none⟩ ∧ n ≤ cap ∧ b < w.heap.size ∧ w.cell? ⟨b, off, none⟩ = some (u8v x) := by
  obtain ⟨h1, h2, h3, h4⟩ := h
  refine ⟨by simpa using h1, h2 x (by simp), h3, ?_⟩
  rcases h4 with h4 | ⟨b, off, e, hcap, hlt, hr⟩
  · rw [h4] at h1; simp at h1
  · exact ⟨b, off, e, hcap, hlt, by have := hr 0 (by rw [h1]; simp); simpa using this⟩
theorem only_set (w : World) (R q : Nat) (v : Value) : Only R w (w.setCell ⟨R, q, none⟩ v) := ⟨rfl, rfl, rfl, by simp, fun k hk => heap_setCell_other w _ k _ hk⟩
theorem val_zero_free {w : World} {b : Nat} {cs : Array Value} (h : ValIn w b cs) (o : Nat) : w.frozen? ⟨b, o, none⟩ = false := by
  unfold ValIn at h
  simp [World.frozen?, h]
/-! a list that grows -/
abbrev onRow (B : Nat) (v : Value) : Nat → Bool := fun b => decide (B ≤ b) && decide (v.ownBlock ≠ some b)
def Grow (w1 : World) (R g : Nat) (k : Int) (v : Value) (acc : List (Vl × List Value)) (W : World) : Prop :=
  (∀ p ∈ acc, ValOn (onRow w1.heap.size v) W p.1 p.2) ∧ ValIn W g #[.int .i64 k, .int .u8 0, v] ∧ W.ownsRow w1.heap.size 39 3 v acc.length (acc.flatMap (·.2)) ∧ Kept R g w1 W
theorem Grow.start {w1 : World} {R g : Nat} {k : Int} (h : ValIn w1 g #[.int .i64 k, .int .u8 0, .slice none 0 0]) : Grow w1 R g k (.slice none 0 0) [] w1 :=
  ⟨(fun p hp => by cases hp), h, World.ownsRow_nil _ _ _ _, Kept.refl _ _ _⟩
theorem Grow.call {w1 W W' : World} {R g : Nat} {k : Int} {v : Value} {acc : List (Vl × List Value)} (h : Grow w1 R g k v acc W) (hb : Kept R R W W') (hR : R < w1.heap.size) (hg : R ≠ g) : Grow w1 R g k v acc W' := by
  obtain ⟨h1, h2, h3, h4⟩ := h
  refine ⟨fun p hp => (h1 p hp).mono hb.size fun q h5 h6 => ⟨h5, hb.block q h6 ?_ ?_⟩, hb.val h2 hg.symm hg.symm, ?_, h4.trans hb.more⟩
  · simp only [onRow, Bool.and_eq_true, decide_eq_true_eq] at h5; omega
  · simp only [onRow, Bool.and_eq_true, decide_eq_true_eq] at h5; omega
  · exact h3.kept (row := some R) ⟨hb.os, hb.tape, hb.output, hb.size, fun q hq hne => hb.block q hq (fun e => hne (by rw [e])) (fun e => hne (by rw [e]))⟩ (.inr fun e => by have := (h3.lt R e).1; omega)
theorem Grow.later {w1 W W' : World} {R g : Nat} {k : Int} {v : Value} {acc : List (Vl × List Value)} (h : Grow w1 R g k v acc W) (hb : Below W.heap.size W W') (hR : R < w1.heap.size) (hg : R ≠ g) : Grow w1 R g k v acc W' := h.call (Kept.of_below hb) hR hg
/-- one more -/
theorem Grow.more {w1 W w5 : World} {R g : Nat} {k : Int} {v v' : Value} {acc : List (Vl × List Value)} {y : Vl} {cs : List Value} {B2 : Nat} (h : Grow w1 R g k v acc W) (hg : g < w1.heap.size) (hB : w1.heap.size ≤ B2) (hy : ValOn (fromV B2) W y cs)
    (hv : ∀ q, v.ownBlock = some q → q < B2) (ho : w5.ownsRow w1.heap.size 39 3 v' (acc.length + 1) (acc.flatMap (·.2) ++ cs)) (hgr : W.grownBy w5 v.ownBlock)
    (hf : v'.ownBlock = v.ownBlock ∨ v'.ownBlock = some W.heap.size) : Grow w1 R g k v' (acc ++ [(y, cs)]) (w5.setCell ⟨g, 2, none⟩ v') := by
  obtain ⟨h1, h2, h3, h4⟩ := h
  have hs5 := hgr.size
  have hs1 := h4.size
  have hkeep : ∀ q, q < W.heap.size → q ≠ g → v.ownBlock ≠ some q → (w5.setCell ⟨g, 2, none⟩ v').heap[q]? = W.heap[q]? := fun q hq hne hvq => by
    rw [heap_setCell_other _ _ _ _ hne]
    exact hgr.block q hq (fun e => hvq e.symm)
  have hv' : ∀ q, q < W.heap.size → v.ownBlock ≠ some q → v'.ownBlock ≠ some q := fun q hq hne e => by
    rcases hf with hf | hf
    · exact hne (by rw [← hf, e])
    · rw [hf] at e; injection e with e; omega
  have hgv : v.ownBlock ≠ some g := fun e => by have := (h3.lt g e).1; omega
  have hbx : ValIn w5 g #[.int .i64 k, .int .u8 0, v] := (hgr.block g (by omega) (fun e => hgv e.symm)).trans h2
  refine ⟨?_, ?_, ?_, ?_⟩
  · intro p hp
    rcases List.mem_append.1 hp with hp | hp
    · refine (h1 p hp).mono (by simp; omega) fun q hq hlt => ?_
      simp only [onRow, Bool.and_eq_true, decide_eq_true_eq] at hq ⊢
      exact ⟨⟨hq.1, hv' q hlt hq.2⟩, hkeep q hlt (by omega) hq.2⟩
    · rw [List.mem_singleton] at hp
      subst hp
      refine hy.mono (by simp; omega) fun q hq hlt => ?_
      simp only [onRow, fromV, Bool.and_eq_true, decide_eq_true_eq] at hq ⊢
      have hne : v.ownBlock ≠ some q := fun e => by have := hv q e; omega
      exact ⟨⟨by omega, hv' q hlt hne⟩, hkeep q hlt (by omega) hne⟩
  · show _ = _
    rw [heap_setCell_same w5 g 2 _ _ _ hbx]; rfl
  · rw [List.flatMap_append, List.length_append]
    have h := ownsRow_setCell_below ho (a := ⟨g, 2, none⟩) hg v'
    simpa using h
  · exact ⟨hgr.os.trans h4.os, hgr.tape.trans h4.tape, hgr.output.trans h4.output, by simp; omega, fun q hq hR hg' => by
      rw [hkeep q (by omega) hg' (fun e => by have := (h3.lt q e).1; omega)]
      exact h4.block q hq hR hg'⟩
/-- the value that it makes -/
theorem Grow.made {w1 W : World} {R g : Nat} {k : Int} {v : Value} {acc : List (Vl × List Value)} (h : Grow w1 R g k v acc W) (hk : fits64 k) (hn : acc.length ≤ maxLen) : ValOn (fromV w1.heap.size) W (.mk k 0 (acc.map (·.1))) [.int .i64 k, .int .u8 0, v] := by
  obtain ⟨h1, _, ho, _⟩ := h
  have h1' : ∀ q ∈ acc, ValOn (fromV w1.heap.size) W q.1 q.2 := fun q hq => (h1 q hq).mono (Nat.le_refl _) fun b hb _ => by
    simp only [onRow, Bool.and_eq_true, decide_eq_true_eq] at hb
    exact ⟨decide_eq_true hb.1, rfl⟩
  unfold ValOn
  rw [at_mk]
  have hlen : (acc.map (·.1)).length = acc.length := List.length_map ..
  rcases ho.2 with ⟨rfl, h0⟩ | ⟨q, cap, cur, rfl, hb, hg, hc, hm, hs, htake⟩
  · exact ⟨hk, by decide, none, 0, by rw [hlen, h0]; rfl, by rw [hlen]; exact hn, .inl (by rw [hlen]; exact h0)⟩
  · refine ⟨hk, by decide, some ⟨q, 0, none⟩, cap, by rw [hlen]; rfl, by rw [hlen]; exact hn, .inr ⟨q, 0, rfl, by rw [hlen]; exact hc, by rw [dim_size]; exact (Array.getElem?_eq_some_iff.1 hg).1, ?_⟩⟩
    refine valsAt_cells acc 0 h1' fun j hj => ?_
    have hl := ho.1
    obtain ⟨u, hu⟩ : ∃ u, (acc.flatMap (·.2))[j]? = some u := ⟨_, List.getElem?_eq_getElem (by omega)⟩
    have := ho.cells (g := q) rfl j u hu
    rw [addr_at] at this
    rw [World.cell?_of_block (dim_block (decide_eq_true hb)), this, hu]
theorem Grow.slice {w1 W : World} {R g : Nat} {k : Int} {v : Value} {acc : List (Vl × List Value)} (h : Grow w1 R g k v acc W) : ∃ a cap, v = .slice a acc.length cap := by
  obtain ⟨a, cap, e⟩ := owns_form h.2.2.1
  exact ⟨a, cap, e⟩
theorem info_val : (Tryd.prog.info? 39).map (fun i => (i.zero, i.size, i.bytes)) = some (some (.agg #[.int .i64 0, .int .u8 0, .slice none 0 0]), 3, 40) := by kernel_rfl
theorem wpList_append_val {ops : Array Oper} {rest : List Oper} {o : Oper} {a : Act} {w : World} {Q : Exit → Act → World → Prop} (hgd : o.guard = none) (s x : Operand)
    (ho : o.op = .call { callee := .builtin .append, args := #[s, x], argTypes := #[37, 37] })
    (base : Nat) (v : Value) (n : Nat) (xs : List Value) (hs : a.eval s = v) (hown : w.ownsRow base 39 3 v n xs) (b : Nat) (cs : List Value) (hx : a.eval x = .slice (some ⟨b, 0, none⟩) 1 1) (hc : Val3 w b 0 cs)
    (h1 : ∀ u ∈ cs, u.oneCell' = true) (hn : n < 400000000000) (hbase : base ≤ w.heap.size)
    (h : ∀ v' w', w'.ownsRow base 39 3 v' (n + 1) (xs ++ cs) → w.grownBy w' v.ownBlock → (v'.ownBlock = v.ownBlock ∨ v'.ownBlock = some w.heap.size) → wpList Tryd.prog ops Q rest (a.put o.dst v') w') : wpList Tryd.prog ops Q (o :: rest) a w := by
  obtain ⟨i0, hi, hz0, hz1, hz2⟩ := info_parts info_val
  have hnews : ∀ j u, cs[j]? = some u → w.cell? ((⟨b, 0, none⟩ : Addr).add j) = some u := by
    intro j u hj
    have hjl : j < 3 := by rw [← hc.1]; exact (List.getElem?_eq_some_iff.1 hj).1
    rw [addr_at, hc.2 j hjl, hj]
  obtain ⟨v', w', hr, h2, h3, _, h5⟩ := run_append_own_at (P := Tryd.prog) (w := w) base 37 o.type 39 i0 (.agg #[.int .i64 0, .int .u8 0, .slice none 0 0]) 3 40 Tryd.underlying37 hi hz0 hz1 hz2 rfl (by decide) v n xs hown ⟨b, 0, none⟩ 1 1 cs (by rw [hc.1]) hnews h1 (by unfold maxLen; omega) (by omega) hbase
  refine wpList_plain hgd fun _ hK => ?_
  unfold Oper.wp execOp
  simp only [ho, resolve, invoke, builtin, Sem.run_bind, Sem.run_pure, Result.andThen_ok, List.map_toArray, List.map_cons, List.map_nil, hs, hx, hr]
  exact hK _ _ (h v' w' h2 h3 h5)
theorem wp_store_val {o : Oper} {a : Act} {w : World} {K : Act → World → Prop} {Q : Exit → Act → World → Prop} (x y : Operand) (ho : o.op = .store 39 x y) (b : Nat) (cs ds : Array Value) (hx : a.eval x = .pointer (some ⟨b, 0, none⟩)) (hy : a.eval y = .agg ds)
    (hb : ValIn w b cs) (hd : ds.size = 3) (hc : cs.size = 3) (h1 : (ds.all fun x => x.oneCell') = true) (hK : ∀ w', ValIn w' b ds → Only b w w' → K (a.put o.dst undef) w') : o.wp Tryd.prog a w K Q :=
  wp_store_row _ _ _ ho b _ hx hy _ _ hb (by rw [hd]; exact infoVal) (by rw [hd, hc]) h1 (hK _ (setRow_heap w b _ _ _ _ hb) (only_row _ _ _))
theorem infoVal3 : (Tryd.prog.info? 39).map (·.size) = some 3 := infoVal
theorem results_valAnd {fn : Func} {p u : Tmp} (h : fn.results = #[.cell p 39, .tmp u]) (tmps : Array Value) (w : World) (b : Nat) (cs : Array Value) (hp : tmps.getD p undef = .pointer (some ⟨b, 0, none⟩)) (h0 : ValIn w b cs) (hc : cs.size = 3) :
    (results fn tmps).run Tryd.prog w = .ok (.tuple #[.agg cs, tmps.getD u undef]) w := by
  have hp' : tmps[p]?.getD undef = .pointer (some ⟨b, 0, none⟩) := by simpa [Array.getD_eq_getD_getElem?] using hp
  simp [results, h, hp', asAddr, run_loadVar_row w b _ _ cs _ _ h0 Tryd.underlying39 rfl (show _ = some cs.size from by rw [hc]; exact infoVal)]
end V
end Go.Proofs.YtonhmjfopidacaaDoor
