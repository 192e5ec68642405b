/- The core of a valid node may be, and its groups are the node's. -/
import Derived.Test.YtlgpbgcheeaalaaGreatDoorCoreFirsts
namespace Go.Proofs.YtlgpbgcheeaalaaGreatDoor
namespace K
set_option maxRecDepth 100000
open Go.RowKit
mutual
/-- it may be, and each group's number is at least a and below b -/
def Cr.fg (a b : Int) : Cr → Bool
  | .mk k s n l => partOk k s n l.length && (k != 6 || decide (a ≤ n) && decide (n < b)) && fgs a b l
def fgs (a b : Int) : List Cr → Bool
  | [] => true
  | x :: l => x.fg a b && fgs a b l
end
theorem fg_mk (a b k : Int) (s : BitVec 256) (n : Int) (l : List Cr) : (Cr.mk k s n l).fg a b = (partOk k s n l.length && (k != 6 || decide (a ≤ n) && decide (n < b)) && fgs a b l) := by rw [Cr.fg]
theorem fgs_cons (a b : Int) (x : Cr) (l : List Cr) : fgs a b (x :: l) = (x.fg a b && fgs a b l) := by rw [fgs]
theorem fgs_nil (a b : Int) : fgs a b [] = true := by rw [fgs]
theorem fgs_append (a b : Int) (l m : List Cr) : fgs a b (l ++ m) = (fgs a b l && fgs a b m) := by
  induction l with
  | nil => rw [List.nil_append, fgs_nil, Bool.true_and]
  | cons x l ih => rw [List.cons_append, fgs_cons, fgs_cons, ih, Bool.and_assoc]
mutual
theorem fg_form (a b : Int) : ∀ x : Cr, x.fg a b = true → x.form = true
  | .mk k s n l, h => by
    rw [fg_mk, Bool.and_eq_true, Bool.and_eq_true] at h
    rw [form_mk, h.1.1, fgs_forms a b l h.2]; rfl
theorem fgs_forms (a b : Int) : ∀ l : List Cr, fgs a b l = true → forms l = true
  | [], _ => forms_nil
  | x :: l, h => by
    rw [fgs_cons, Bool.and_eq_true] at h
    rw [forms_cons, fg_form a b x h.1, fgs_forms a b l h.2]; rfl
end
mutual
theorem fg_wide {a b a' b' : Int} (ha : a' ≤ a) (hb : b ≤ b') : ∀ x : Cr, x.fg a b = true → x.fg a' b' = true
  | .mk k s n l, h => by
    rw [fg_mk, Bool.and_eq_true, Bool.and_eq_true] at h
    rw [fg_mk, h.1.1, fgs_wide ha hb l h.2, Bool.and_true, Bool.true_and]
    have h2 := h.1.2
    simp only [Bool.or_eq_true, bne_iff_ne, Bool.and_eq_true, decide_eq_true_eq] at h2 ⊢
    omega
theorem fgs_wide {a b a' b' : Int} (ha : a' ≤ a) (hb : b ≤ b') : ∀ l : List Cr, fgs a b l = true → fgs a' b' l = true
  | [], _ => fgs_nil _ _
  | x :: l, h => by
    rw [fgs_cons, Bool.and_eq_true] at h
    rw [fgs_cons, fg_wide ha hb x h.1, fgs_wide ha hb l h.2]; rfl
end
mutual
theorem fg_pre (a b : Int) : ∀ x : Cr, x.fg a b = true → ∀ k s n l, Cr.mk k s n l ∈ x.pre → k = 6 → a ≤ n ∧ n < b
  | .mk k s n l, h, k', s', n', l', hm, hk => by
    rw [fg_mk, Bool.and_eq_true, Bool.and_eq_true] at h
    rw [pre_mk] at hm
    rcases List.mem_cons.1 hm with e | hm
    · injection e with e1 e2 e3 e4
      subst e1 e2 e3 e4 hk
      have h2 := h.1.2
      simpa using h2
    · exact fgs_pres a b l h.2 k' s' n' l' hm hk
theorem fgs_pres (a b : Int) : ∀ l : List Cr, fgs a b l = true → ∀ k s n l', Cr.mk k s n l' ∈ pres l → k = 6 → a ≤ n ∧ n < b
  | [], _, _, _, _, _, hm, _ => by rw [pres_nil] at hm; cases hm
  | x :: l, h, k', s', n', l', hm, hk => by
    rw [fgs_cons, Bool.and_eq_true] at h
    rw [pres_cons] at hm
    rcases List.mem_append.1 hm with hm | hm
    · exact fg_pre a b x h.1 k' s' n' l' hm hk
    · exact fgs_pres a b l h.2 k' s' n' l' hm hk
end
/-! the parts that the core is made of -/
theorem fg_leaf (a b : Int) : (leafC 1).fg a b = true := by rw [fg_mk, fgs_nil]; rfl
theorem fg_one (a b : Int) {k : Int} (hk : k = 5 ∨ k = 7) {x : Cr} (hx : x.fg a b = true) : (Cr.mk k 0 0 [x]).fg a b = true := by
  rw [fg_mk, fgs_cons, fgs_nil, hx]
  rcases hk with rfl | rfl <;> rfl
theorem fg_two (a b : Int) {k : Int} (hk : k = 3 ∨ k = 4) {x y : Cr} (hx : x.fg a b = true) (hy : y.fg a b = true) : (Cr.mk k 0 0 [x, y]).fg a b = true := by
  rw [fg_mk, fgs_cons, fgs_cons, fgs_nil, hx, hy]
  rcases hk with rfl | rfl <;> rfl
theorem fg_join (a b : Int) {k : Int} (hk : k = 3 ∨ k = 4) : ∀ l : List Cr, l ≠ [] → fgs a b l = true → (joinC k l).fg a b = true
  | [], h, _ => absurd rfl h
  | [x], _, h => by rw [fgs_cons, Bool.and_eq_true] at h; exact h.1
  | x :: y :: l, _, h => by
    rw [fgs_cons, Bool.and_eq_true] at h
    exact fg_two a b hk h.1 (fg_join a b hk (y :: l) (by simp) h.2)
theorem fg_again (a b : Int) {c : Cr} (hc : c.fg a b = true) (first : Bool) : (againC first c).fg a b = true := by
  cases first
  · exact fg_one a b (.inr rfl) hc
  · exact hc
theorem fg_copies (a b : Int) {c : Cr} (hc : c.fg a b = true) : ∀ i, fgs a b (copiesC c i) = true
  | 0 => fgs_nil _ _
  | i + 1 => by
    show fgs a b (copiesC c i ++ [_]) = true
    rw [fgs_append, fg_copies a b hc i, fgs_cons, fgs_nil, fg_again a b hc]; rfl
theorem fg_opt (a b : Int) {c : Cr} (hc : c.fg a b = true) : ∀ (t : Nat) (first : Bool), (optC c t first).fg a b = true
  | 0, first => fg_two a b (.inr rfl) (fg_again a b hc first) (fg_leaf a b)
  | t + 1, first => fg_two a b (.inr rfl) (fg_two a b (.inl rfl) (fg_again a b hc first) (fg_opt a b hc t false)) (fg_leaf a b)
theorem fg_rest (a b : Int) {c : Cr} (hc : c.fg a b = true) (lo hi : Int) : fgs a b (restC c lo hi) = true := by
  unfold restC
  split
  · rw [fgs_cons, fgs_nil, fg_one a b (.inl rfl) (fg_again a b hc _)]; rfl
  split
  · rw [fgs_cons, fgs_nil, fg_opt a b hc]; rfl
  · exact fgs_nil _ _
theorem fg_rep (a b : Int) {c : Cr} (hc : c.fg a b = true) {lo hi : Int} (h0 : 0 ≤ lo) (h1 : hi = -1 ∨ lo ≤ hi) : (repC c lo hi).fg a b = true := by
  unfold repC
  split
  · exact fg_leaf a b
  · rename_i hn
    exact fg_join a b (.inl rfl) _ (both_ne c h0 h1 hn) (by rw [fgs_append, fg_copies a b hc, fg_rest a b hc]; rfl)
theorem form_le {x : Nd} {next m : Nat} (h : x.form next = some m) : next ≤ m := by have := grp_form x next m h; omega
theorem core_fg : ∀ (c : Nat) (x : Nd) (next m : Nat), x.count ≤ c → x.form next = some m → 1 ≤ next → m ≤ 33 → (Nd.core x).fg next m = true
  | 0, x, _, _, hc, _, _, _ => by have := x.count_pos; omega
  | c + 1, .mk k s lo hi n l, next, m, hc, hf, h1, h2 => by
    have hcnt : ∀ y ∈ l, y.count ≤ c := fun y hy => by have := Go.Proofs.YtlgpbgcheeaalaaGreatDoor.count_mem (x := Nd.mk k s lo hi n l) (y := y) hy; omega
    have hall : ∀ (l' : List Nd) (nx : Nat), (∀ y ∈ l', y ∈ l) → 1 ≤ nx → ∀ m', m' ≤ 33 → Go.Proofs.YtlgpbgcheeaalaaGreatDoor.forms k l' nx = some m' → fgs nx m' (cores l') = true := by
      intro l'
      induction l' with
      | nil => intro nx _ _ m' _ _; rw [cores_nil]; exact fgs_nil _ _
      | cons y l' ih =>
        intro nx hs hn m' hm' hfs
        rw [Go.Proofs.YtlgpbgcheeaalaaGreatDoor.forms_cons] at hfs
        split at hfs
        · cases hy : y.form nx with
          | none => rw [hy] at hfs; cases hfs
          | some m1 =>
            rw [hy] at hfs
            have hle := form_le hy
            have hfs' : Go.Proofs.YtlgpbgcheeaalaaGreatDoor.forms k l' m1 = some m' := hfs
            have hle2 : m1 ≤ m' := by have := grps_form k l' m1 m' hfs'; omega
            rw [cores_cons, fgs_cons, fg_wide (Int.le_refl _) (by omega) _ (core_fg c y nx m1 (hcnt y (hs y (by simp))) hy hn (by omega)), fgs_wide (by omega) (Int.le_refl _) _ (ih m1 (fun z hz => hs z (by simp [hz])) (by omega) m' hm' hfs')]
            rfl
        · cases hfs
    have hf0 := hf
    rw [Go.Proofs.YtlgpbgcheeaalaaGreatDoor.form_mk] at hf
    split at hf
    · rename_i hfo
      unfold fieldsOk at hfo
      by_cases k1 : k = 1
      · subst k1
        simp at hfo
        obtain ⟨_, _, rfl⟩ := hfo.2
        rw [core_mk, if_pos rfl, fg_mk, fgs_nil]
        rfl
      by_cases k2 : k = 2 ∨ k = 3
      · rw [if_neg k1, if_pos k2] at hfo
        simp only [Bool.and_eq_true, decide_eq_true_eq] at hfo
        rw [if_neg (by omega)] at hf
        have ha := hall l next (fun y hy => hy) h1 m h2 hf
        have hne : cores l ≠ [] := fun h => by have := congrArg List.length h; rw [cores_length, List.length_nil] at this; omega
        rcases k2 with rfl | rfl
        · rw [core_mk, if_neg (by decide), if_pos rfl]; exact fg_join _ _ (.inl rfl) _ hne ha
        · rw [core_mk, if_neg (by decide), if_neg (by decide), if_pos rfl]; exact fg_join _ _ (.inr rfl) _ hne ha
      have hone : ∀ nx, 1 ≤ nx → l.length = 1 → Go.Proofs.YtlgpbgcheeaalaaGreatDoor.forms k l nx = some m → (headC l).fg nx m = true := fun nx hn hl hfs => by
        obtain ⟨y, rfl⟩ := List.length_eq_one_iff.1 hl
        have ha := hall [y] nx (fun z hz => hz) hn m h2 hfs
        rw [cores_cons, fgs_cons, Bool.and_eq_true] at ha
        show (headC [y]).fg nx m = true
        rw [headC]
        exact ha.1
      rw [if_neg k1, if_neg k2] at hfo
      by_cases k4 : k = 4
      · subst k4
        simp at hfo
        rw [if_neg (by decide)] at hf
        rw [core_mk, if_neg (by decide), if_neg (by decide), if_neg (by decide), if_pos rfl]
        have h5 := hfo.2
        exact fg_rep _ _ (hone next h1 h5.1.1.1 hf) (by omega) (by omega)
      by_cases k5 : k = 5
      · subst k5
        simp at hfo
        rw [if_pos rfl] at hf
        have h5 := hfo.2
        have ha := hone (next + 1) (by omega) h5.1 hf
        have hle : next + 1 ≤ m := by have := grps_form 5 l (next + 1) m hf; omega
        rw [core_mk, if_neg (by decide), if_neg (by decide), if_neg (by decide), if_neg (by decide), if_pos rfl, fg_mk, fgs_cons, fgs_nil, fg_wide (by omega) (Int.le_refl _) _ ha, h5.2]
        simp only [Bool.and_true]
        rw [Bool.and_eq_true]
        constructor
        · simp [partOk]; omega
        · simp; omega
      by_cases k6 : k = 6
      · subst k6
        simp at hfo
        rw [if_neg (by decide)] at hf
        rw [core_mk, if_neg (by decide), if_neg (by decide), if_neg (by decide), if_neg (by decide), if_neg (by decide)]
        exact hone next h1 hfo.2 hf
      · rw [if_neg k4, if_neg k5, if_neg k6, Bool.and_false] at hfo; cases hfo
    · cases hf
/-! how many groups -/
theorem nodup_few : ∀ (n : Nat) (l : List Int) (a : Int), l.Nodup → (∀ t ∈ l, a ≤ t ∧ t < a + n) → l.length ≤ n
  | 0, l, a, _, h => by
    cases l with
    | nil => simp
    | cons x l => have := h x (by simp); omega
  | n + 1, l, a, hn, h => by
    have h1 := nodup_few n (l.erase (a + n)) a (hn.erase _) fun t ht => by
      have h2 := h t (List.mem_of_mem_erase ht)
      have h3 : t ≠ a + n := fun e => by rw [e] at ht; exact (List.Nodup.not_mem_erase hn) ht
      omega
    by_cases hm : (a + (n : Int)) ∈ l
    · rw [List.length_erase_of_mem hm] at h1
      omega
    · rw [List.erase_of_not_mem hm] at h1
      omega
theorem accG_nodup : ∀ (l : List Cr) (acc : List Int), acc.Nodup → (accG l acc).Nodup
  | [], acc, h => h
  | .mk k s n ls :: l, acc, h => by
    refine accG_nodup l _ ?_
    split
    · unfold addI
      split
      · exact h
      · rename_i hs
        rw [List.nodup_append]
        exact ⟨h, by simp, fun a ha b hb => by rw [List.mem_singleton] at hb; rintro rfl; exact hs (hb ▸ ha)⟩
    · exact h
theorem accG_mem : ∀ (l : List Cr) (acc : List Int) (t : Int), t ∈ accG l acc → t ∈ acc ∨ ∃ s ls, Cr.mk 6 s t ls ∈ l
  | [], acc, t, h => .inl h
  | .mk k s n ls :: l, acc, t, h => by
    rcases accG_mem l _ t h with h1 | ⟨s', ls', h1⟩
    · split at h1
      · rename_i hk
        unfold addI at h1
        split at h1
        · exact .inl h1
        · rcases List.mem_append.1 h1 with h2 | h2
          · exact .inl h2
          · rw [List.mem_singleton] at h2
            subst h2 hk
            exact .inr ⟨s, ls, by simp⟩
      · exact .inl h1
    · exact .inr ⟨s', ls', by simp [h1]⟩
/-- the core of a valid pattern's root -/
theorem core_good {x : Nd} {g : Int} (h : goodP x g = true) (hc : (Nd.core x).count ≤ 2000) : goodC (Nd.core x) = true ∧ ((groupsC (Nd.core x)).length : Int) ≤ g := by
  have hg := good_grp h
  obtain ⟨h1, m, hf⟩ := hg
  unfold goodP at h
  rw [hf] at h
  simp only [Bool.and_eq_true, decide_eq_true_eq, beq_iff_eq] at h
  have hm : m ≤ 33 := by omega
  have hfg := core_fg x.count x 1 m (Nat.le_refl _) hf (Nat.le_refl _) hm
  have hgd : goodC (Nd.core x) = true := by
    unfold goodC
    rw [decide_eq_true hc, fg_form _ _ _ hfg]; rfl
  refine ⟨hgd, ?_⟩
  have hle := form_le hf
  have h2 := nodup_few (m - 1) (groupsC (Nd.core x)) 1 (by
    unfold groupsC
    rw [if_pos hgd]
    exact accG_nodup _ _ List.nodup_nil) fun t ht => by
      unfold groupsC at ht
      rw [if_pos hgd] at ht
      rcases accG_mem _ _ _ ht with h3 | ⟨s, ls, h3⟩
      · cases h3
      · have := fg_pre _ _ _ hfg 6 s t ls h3 rfl
        omega
  omega
theorem text_some {x : Cr} (h : goodC x = true) : textC x ≠ [] := by
  unfold textC
  rw [if_pos h]
  have hf : x.form = true := by unfold goodC at h; rw [Bool.and_eq_true] at h; exact h.2
  rcases txt_head hf with e | e | ⟨t, e⟩ | ⟨t, e⟩ <;> rw [e] <;> simp
theorem groups_walk {x : Cr} {cs : List Value} {w : World} (hat : Cr.at w x cs) (hg : goodC x = true) :
    Calls Tryz.prog 14 #[.agg cs.toArray] w fun e w' => ∃ a cap, e = .returned (.slice a (groupsC x).length cap) ∧ w'.ownsRow w.heap.size 3 1 (.slice a (groupsC x).length cap) (groupsC x).length (intCells (groupsC x)) ∧ Below w.heap.size w w' := by
  obtain ⟨k, s, n, a, len, cap, rfl⟩ := at_lit hat
  obtain ⟨W, hW⟩ : ∃ W, W = w.alloc (.cells #[.int .i64 k, .int .u64 (word s 0), .int .u64 (word s 1), .int .u64 (word s 2), .int .u64 (word s 3), .int .i64 n, .slice a len cap] 30) := ⟨_, rfl⟩
  have hal : Below w.heap.size w W := by rw [hW]; exact alloc_below w _
  have h7 : Core7 W w.heap.size 0 [.int .i64 k, .int .u64 (word s 0), .int .u64 (word s 1), .int .u64 (word s 2), .int .u64 (word s 3), .int .i64 n, .slice a len cap] := by rw [hW]; exact core7_in (World.alloc_heap_new w _) rfl
  have hf := firsts_walk (Cr.at_below hal (Nat.le_refl _) _ _ hat) hg
  have Hf := Lib.hid hf
  have Hal := Lib.hid hal
  generalize groupsC x = L at *
  clear hf hal hat
  go_enter Tryz.func14, Tryz.ntmps14
  go_upto_region 1 with fail
  rw [← hW]
  clear hW
  go_wp2_with (first | (refine wpList_load_core rfl _ rfl w.heap.size 0 _ rfl h7 ?_))
  refine Hf.out.mono ?_
  rintro e w1 ⟨a1, cap1, rfl, hown, hb⟩
  have H1 := Lib.hid (And.intro hown hb)
  clear hown hb
  go_wp2_with fail
  go_ret
  exact ⟨a1, cap1, rfl, owns_base_int H1.out.1 Hal.out.size, Hal.out.trans (H1.out.2.mono Hal.out.size)⟩
end K
end Go.Proofs.YtlgpbgcheeaalaaGreatDoor
