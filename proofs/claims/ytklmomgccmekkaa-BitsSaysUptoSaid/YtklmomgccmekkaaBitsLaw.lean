/- What the laws of layer 11 need of Get and Put: sizes; what is put is got back; a full value's choices tell it. -/
import Derived.Test.YtklmomgccmekkaaBitsAwake
import Derived.Test.YtklmomgccmekkaaValOps
namespace Go.Proofs.Ytklmomgccmekkaa
namespace V
set_option maxRecDepth 100000
open Go.RowKit
theorem mul_split {a b c p q : Nat} (h1 : a ≤ b * (p + 1)) (h2 : c ≤ q) : a + b * c ≤ b * (p + q + 1) := by
  have e : b * (p + q + 1) = b * (p + 1) + b * q := by rw [← Nat.mul_add]; congr 1; omega
  have := Nat.mul_le_mul_left b h2
  omega
/-- a value of a core has no more parts than the core has, for each choice and once -/
theorem count_le : ∀ (m : Nat) (c : K.Cr), c.count ≤ m → ∀ v : Vl, bel c v = true → v.count ≤ c.count * (v.put.length + 1)
  | 0, c, h => absurd (K.Cr.count_pos c) (by omega)
  | m + 1, .mk k st n cl, h => by
    have kid : ∀ y ∈ cl, ∀ v : Vl, bel y v = true → v.count ≤ K.counts cl * (v.put.length + 1) := fun y hy v hv =>
      Nat.le_trans (count_le m y (by have := K.counts_mem hy; rw [K.count_mk] at h; omega) v hv) (Nat.mul_le_mul_right _ (K.counts_mem hy))
    have hget : ∀ (i : Nat) (v : Vl), (cl.map bel).getD i (fun _ => false) v = true → v.count ≤ K.counts cl * (v.put.length + 1) := fun i v h1 => by
      rw [List.getD_eq_getElem?_getD, List.getElem?_map] at h1
      cases hi : cl[i]? with
      | none => rw [hi] at h1; cases h1
      | some y =>
        rw [hi] at h1
        exact kid y (List.mem_of_getElem? hi) v h1
    intro v hv
    rw [bel_mk] at hv
    rw [K.count_mk]
    by_cases h7 : k = 7
    · subst h7
      rw [belT_seven] at hv
      have := hget 0 v hv
      exact Nat.le_trans this (Nat.mul_le_mul_right _ (by omega))
    obtain ⟨vk, vz, vl⟩ := v
    rw [belT_else h7, Bool.and_eq_true] at hv
    obtain ⟨hfv, hv⟩ := hv
    have lv := form_len hfv
    have hp := put_full hfv
    have hone : 1 ≤ (1 + K.counts cl) * ((Vl.mk vk vz vl).put.length + 1) := Nat.mul_pos (by omega) (by omega)
    rw [count_mk]
    unfold belK at hv
    have expand : ∀ q : Nat, (1 + K.counts cl) * (q + 1) = (q + 1) + K.counts cl * (q + 1) := fun q => by rw [Nat.add_mul, Nat.one_mul]
    by_cases h1 : k = 1
    · rw [if_pos h1, beq_iff_eq] at hv
      subst hv
      rw [List.length_eq_zero_iff.1 (lv.1 (.inl rfl))] at hone ⊢
      rw [counts_nil]; omega
    rw [if_neg h1] at hv
    by_cases h2 : k = 2
    · rw [if_pos h2, Bool.and_eq_true, beq_iff_eq] at hv
      obtain ⟨rfl, hv⟩ := hv
      rw [List.length_eq_zero_iff.1 (lv.1 (.inr rfl))] at hone ⊢
      rw [counts_nil]; omega
    rw [if_neg h2] at hv
    by_cases h3 : k = 3
    · rw [if_pos h3, Bool.and_eq_true, Bool.and_eq_true, beq_iff_eq] at hv
      obtain ⟨⟨rfl, hv0⟩, hv1⟩ := hv
      match vl, lv.2.1 rfl with
      | [x, y], _ =>
        have e : (Vl.mk 3 vz [x, y]).put.length = x.put.length + y.put.length := by
          rw [hp]
          show (([x, y].map Vl.put).flatten).length = _
          simp
        rw [e, expand, counts_cons, counts_cons, counts_nil]
        have g0 := hget 0 x hv0
        have g1 := hget 1 y hv1
        have m0 := mul_split (q := y.put.length) (c := y.put.length) g0 (Nat.le_refl _)
        have e1 : K.counts cl * (y.put.length + 1) = K.counts cl * y.put.length + K.counts cl := by rw [Nat.mul_add, Nat.mul_one]
        cases hcl : cl with
        | nil => rw [hcl] at hv0; simp at hv0
        | cons c1 r1 =>
          match r1, hcl with
          | [], hcl => rw [hcl] at hv1; simp at hv1
          | c2 :: r2, hcl =>
            have k0 : x.count ≤ c1.count * (x.put.length + 1) := count_le m c1 (by rw [K.count_mk, hcl, K.counts_cons] at h; omega) x (by rw [hcl] at hv0; simpa using hv0)
            have k1 : y.count ≤ c2.count * (y.put.length + 1) := count_le m c2 (by rw [K.count_mk, hcl, K.counts_cons, K.counts_cons] at h; omega) y (by rw [hcl] at hv1; simpa using hv1)
            rw [K.counts_cons, K.counts_cons]
            have k2 := Nat.le_trans k0 (Nat.mul_le_mul_left c1.count (show x.put.length + 1 ≤ x.put.length + y.put.length + 1 by omega))
            have k3 := Nat.le_trans k1 (Nat.mul_le_mul_left c2.count (show y.put.length + 1 ≤ x.put.length + y.put.length + 1 by omega))
            rw [Nat.add_mul, Nat.add_mul]
            omega
    rw [if_neg h3] at hv
    by_cases h4 : k = 4
    · rw [if_pos h4, Bool.or_eq_true, Bool.and_eq_true, Bool.and_eq_true, beq_iff_eq, beq_iff_eq] at hv
      rcases hv with ⟨rfl, hv⟩ | ⟨rfl, hv⟩
      · match vl, lv.2.2 (by decide) with
        | [x], _ =>
          have e : (Vl.mk 4 vz [x]).put.length = x.put.length + 1 := by
            rw [hp]
            show (48 :: ([x].map Vl.put).flatten).length = _
            simp
          rw [e, expand, counts_cons, counts_nil]
          have := Nat.le_trans (hget 0 x hv) (Nat.mul_le_mul_left (K.counts cl) (show x.put.length + 1 ≤ x.put.length + 1 + 1 by omega))
          omega
      · match vl, lv.2.2 (by decide) with
        | [x], _ =>
          have e : (Vl.mk 5 vz [x]).put.length = x.put.length + 1 := by
            rw [hp]
            show (49 :: ([x].map Vl.put).flatten).length = _
            simp
          rw [e, expand, counts_cons, counts_nil]
          have := Nat.le_trans (hget 1 x hv) (Nat.mul_le_mul_left (K.counts cl) (show x.put.length + 1 ≤ x.put.length + 1 + 1 by omega))
          omega
    rw [if_neg h4] at hv
    by_cases h5 : k = 5
    · rw [if_pos h5, Bool.and_eq_true, beq_iff_eq] at hv
      obtain ⟨rfl, hv⟩ := hv
      rw [List.all_eq_true] at hv
      have e : (Vl.mk 6 vz vl).put.length = ((vl.map Vl.put).flatMap (fun p => 48 :: p)).length + 1 := by
        rw [hp]
        show ((vl.map Vl.put).flatMap (fun p => 48 :: p) ++ [49]).length = _
        simp
      rw [e, expand]
      have hs : ∀ L : List Vl, (∀ y ∈ L, y.count ≤ K.counts cl * (y.put.length + 1)) → counts L ≤ K.counts cl * ((L.map Vl.put).flatMap (fun p => 48 :: p)).length := fun L => by
        induction L with
        | nil => intro _; rw [counts_nil]; omega
        | cons y L ih =>
          intro hL
          have h1 := hL y (by simp)
          have h2 := ih (fun z hz => hL z (by simp [hz]))
          rw [counts_cons, List.map_cons, List.flatMap_cons, List.length_append, List.length_cons, Nat.mul_add]
          omega
      have h1 := hs vl (fun y hy => hget 0 y (hv y hy))
      have h2 := Nat.mul_le_mul_left (K.counts cl) (show ((vl.map Vl.put).flatMap (fun p => 48 :: p)).length ≤ ((vl.map Vl.put).flatMap (fun p => 48 :: p)).length + 1 + 1 by omega)
      omega
    rw [if_neg h5] at hv
    by_cases h6 : k = 6
    · rw [if_pos h6, Bool.and_eq_true, beq_iff_eq] at hv
      obtain ⟨rfl, hv⟩ := hv
      match vl, lv.2.2 (by decide) with
      | [x], _ =>
        have e : (Vl.mk 7 vz [x]).put.length = x.put.length := by
          rw [hp]
          show (([x].map Vl.put).flatten).length = _
          simp
        rw [e, expand, counts_cons, counts_nil]
        have := hget 0 x hv
        omega
    · rw [if_neg h6] at hv
      cases hv
/-- Get's answer where it is no error -/
theorem resG_yes {c : K.Cr} {bs s : List Nat} (h : (resG c bs s).2 = 0) : s.length ≤ 256 ∧ K.goodC c = true ∧ ∃ v, resG c bs s = (v, 0) ∧ bel c v = true ∧ v.fullB = true ∧ bs = v.put ∧ s = v.flat ∧ v.count ≤ 2000 * (bs.length + 1) := by
  unfold resG at h ⊢
  cases hd : (decide (256 < s.length) || !K.goodC c) with
  | true => rw [hd] at h; cases h
  | false =>
    rw [hd] at h
    rw [Bool.or_eq_false_iff, decide_eq_false_iff_not, Bool.not_eq_false'] at hd
    refine ⟨by omega, hd.2, ?_⟩
    cases hv : getV c bs s with
    | none => rw [hv] at h; cases h
    | some v =>
      obtain ⟨v1, v2, v3, v4⟩ := (getV_iff _ _ _ _).1 hv
      refine ⟨v, rfl, v1, v2, v3, v4, ?_⟩
      have h1 := count_le _ c (Nat.le_refl _) v v1
      have h2 := hd.2
      unfold K.goodC at h2
      rw [Bool.and_eq_true, decide_eq_true_eq] at h2
      rw [v3]
      exact Nat.le_trans h1 (Nat.mul_le_mul_right _ h2.1)
theorem resG_code (c : K.Cr) (bs s : List Nat) : (resG c bs s).2 = 0 ∨ (resG c bs s).2 = 1 ∨ (resG c bs s).2 = 7 := by
  unfold resG
  split
  · exact .inr (.inl rfl)
  · split
    · exact .inr (.inr rfl)
    · exact .inl rfl
theorem resG_back {c : K.Cr} {v : Vl} (hg : K.goodC c = true) (hb : bel c v = true) (hf : v.fullB = true) (hl : v.flat.length ≤ 256) : resG c v.put v.flat = (v, 0) := by
  unfold resG
  rw [decide_eq_false (by omega), hg, (getV_iff _ _ _ _).2 ⟨hb, hf, rfl, rfl⟩]
  rfl
theorem ValOn.only {B b : Nat} {w w' : World} {v : Vl} {cs : List Value} (h : ValOn (fromV B) w v cs) (ho : Only b w w') (hb : b < B) : Vl.at w' v cs :=
  (h.mono (q := fun _ => true) (Nat.le_of_eq ho.size.symm) fun k hk _ => ⟨rfl, ho.block k (by have := of_decide_eq_true hk; omega)⟩).at
/-! contracts with their answers named -/
theorem put_y {v : Vl} {ds : List Value} {w : World} {t : ByteArray} (hv : Vl.at w v ds) (ht : nats t = v.put) (hb : v.count ≤ 1048576) :
    Calls Try.prog 18 #[.agg ds.toArray] w fun e w' => e = .returned (.string t) ∧ Below w.heap.size w w' := by
  refine (put_walk hv (by have := put_le v; unfold most; omega)).mono ?_
  rintro e w3 ⟨⟨t', rfl, ht'⟩, hb⟩
  exact ⟨by rw [of_nats (ht'.trans ht.symm)], hb⟩
theorem len_z {v : Vl} {ds : List Value} {w : World} (hv : Vl.at w v ds) (hb : v.count ≤ 1048576) :
    Calls Try.prog 27 #[.agg ds.toArray] w fun e w' => e = .returned (.int .i64 v.flat.length) ∧ Below w.heap.size w w' := by
  refine (len_any v ds w hv).mono ?_
  rintro e w3 ⟨rfl, hb⟩
  exact ⟨by rw [len_flat (by omega)], hb⟩
theorem flat_z {v : Vl} {ds : List Value} {w : World} (hv : Vl.at w v ds) (hb : v.count ≤ 1048576) :
    Calls Try.prog 29 #[.agg ds.toArray] w fun e w' => ∃ p c, e = .returned (.slice p v.flat.length c) ∧ BytesAt w' p v.flat.length c v.flat ∧ Below w.heap.size w w' := by
  have hlt := flat_lt v (at_okB v ds hv)
  refine (flat_any v ds w hv (by have := flat_le v; omega)).mono ?_
  rintro e w' ⟨v', ys, rfl, hys, ho, hb⟩
  have hys := hys.out
  subst hys
  obtain ⟨a, c, rfl⟩ := owns_form ho
  exact ⟨a, c, rfl, bytesAt_of_owns ho hlt (Below.refl _ _), hb⟩
theorem text_known {v : Vl} {ds : List Value} {w : World} {t : ByteArray} (hv : Vl.at w v ds) (h : (decide (v.txt = nats t) && decide (v.count < 1000)) = true) :
    Calls Try.prog 19 #[.agg ds.toArray] w fun e w' => e = .returned (.string t) ∧ Below w.heap.size w w' := by
  rw [Bool.and_eq_true, decide_eq_true_eq, decide_eq_true_eq] at h
  refine (text_walk hv (by have := txt_le v; unfold most; omega)).mono ?_
  rintro e w3 ⟨⟨t', rfl, ht'⟩, hb⟩
  exact ⟨by rw [of_nats (ht'.trans h.1)], hb⟩
theorem full_z {c : K.Cr} {v : Vl} {cs ds : List Value} {w : World} (hc : K.Cr.at w c cs) (hv : Vl.at w v ds) (hb : v.count ≤ 1048576) :
    Calls Try.prog 28 #[.agg cs.toArray, .agg ds.toArray] w fun e w' => e = .returned (.bool (K.goodC c && bel c v && v.fullB)) ∧ Below w.heap.size w w' := by
  have h := full_any hc hv
  have e : fullV c v = (K.goodC c && bel c v && v.fullB) := by unfold fullV goodV; rw [full_flat (by omega)]
  rw [e] at h
  exact h
end V
end Go.Proofs.Ytklmomgccmekkaa
