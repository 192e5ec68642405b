/- Two cores, one behind the other, without groups that both have: the spans. -/
import Derived.Test.YtonhmjfopidacaaDoorCapsLaw
import Derived.Test.YtonhmjfopidacaaDoorCoreGroups
namespace Go.Proofs.YtonhmjfopidacaaDoor
namespace V
set_option maxRecDepth 100000
open Go.RowKit
mutual
theorem hasG_pre (t : Nat) : ∀ c : K.Cr, hasG t c = true → ∃ s ls, K.Cr.mk 6 s (t : Int) ls ∈ c.pre
  | .mk k s n l, h => by
    rw [hasG_mk, Bool.or_eq_true, Bool.and_eq_true, beq_iff_eq, decide_eq_true_eq] at h
    rw [K.pre_mk]
    rcases h with ⟨rfl, rfl⟩ | h
    · exact ⟨s, l, List.mem_cons_self ..⟩
    · obtain ⟨s', ls, h⟩ := hasGs_pres t l h
      exact ⟨s', ls, List.mem_cons_of_mem _ h⟩
theorem hasGs_pres (t : Nat) : ∀ l : List K.Cr, hasGs t l = true → ∃ s ls, K.Cr.mk 6 s (t : Int) ls ∈ K.pres l
  | [], h => by rw [hasGs_nil] at h; cases h
  | x :: l, h => by
    rw [hasGs_cons, Bool.or_eq_true] at h
    rw [K.pres_cons]
    rcases h with h | h
    · obtain ⟨s, ls, h⟩ := hasG_pre t x h
      exact ⟨s, ls, List.mem_append_left _ h⟩
    · obtain ⟨s, ls, h⟩ := hasGs_pres t l h
      exact ⟨s, ls, List.mem_append_right _ h⟩
end
theorem group_in {c : K.Cr} (hg : K.goodC c = true) {t : Nat} (h : hasG t c = true) : (t : Int) ∈ K.groupsC c := by
  obtain ⟨s, ls, hm⟩ := hasG_pre t c h
  unfold K.groupsC
  rw [if_pos hg]
  exact K.accG_has _ _ _ _ _ hm
theorem spans_rows {c d : K.Cr} {v u : Vl} (hc : goodV c v = true) (hd : goodV d u = true) (hv : v.flat.length ≤ 1048576) (hap : ∀ g ∈ K.groupsC c, ∀ h ∈ K.groupsC d, g ≠ h) (j : Nat) (h0 : 0 < j)
    (h1 : j < (spansL 0 (cap c v (0, none32)) 32).length) (h2 : j < (spansL (v.flat.length : Int) (cap d u ((v.flat.length : Int), none32)) 32).length) (h3 : j < (spansL 0 (cap (.mk 3 0 0 [c, d]) (.mk 3 0 [v, u]) (0, none32)) 32).length) :
    (spansL 0 (cap (.mk 3 0 0 [c, d]) (.mk 3 0 [v, u]) (0, none32)) 32)[j]'h3 = if ((spansL 0 (cap c v (0, none32)) 32)[j]'h1).1 = -1 then (spansL (v.flat.length : Int) (cap d u ((v.flat.length : Int), none32)) 32)[j]'h2 else (spansL 0 (cap c v (0, none32)) 32)[j]'h1 := by
  have parts : ∀ {c : K.Cr} {v : Vl}, goodV c v = true → K.goodC c = true ∧ c.form = true ∧ bel c v = true := fun {c v} h => by
    unfold goodV at h
    rw [Bool.and_eq_true] at h
    have h1 := h.1
    unfold K.goodC at h1
    rw [Bool.and_eq_true] at h1
    exact ⟨h.1, h1.2, h.2⟩
  obtain ⟨g1, f1, b1⟩ := parts hc
  obtain ⟨g2, f2, b2⟩ := parts hd
  obtain ⟨n, r, hm⟩ := cap_moves _ c (Nat.le_refl _) f1 v
  obtain ⟨m, q, hq⟩ := cap_moves _ d (Nat.le_refl _) f2 u
  have hl := cap_len _ c (Nat.le_refl _) f1 v (0, none32) b1
  rw [hm.eq] at hl
  have hn : n = (v.flat.length : Int) := by
    have : (0 : Int) + n = 0 + (v.flat.length : Int) := hl
    omega
  have e : cap (.mk 3 0 0 [c, d]) (.mk 3 0 [v, u]) (0, none32) = cap d u (cap c v (0, none32)) := by rw [cap_mk]; rfl
  have hj0 : ¬ j = 0 := by omega
  rw [spansL_get, spansL_get, spansL_get]
  simp only [if_neg hj0]
  rw [e, ← hn, hm.eq, hq.eq, hq.eq]
  show spW (app q (0 + n) (app r 0 none32) j) = if (spW (app r 0 none32 j)).1 = -1 then spW (app q n none32 j) else spW (app r 0 none32 j)
  rw [Int.zero_add]
  by_cases hj : hasG j c = true
  · have hq0 : q j = none := hq.off j (by
      cases h : hasG j d with
      | false => rfl
      | true => exact absurd rfl (hap _ (group_in g1 hj) _ (group_in g2 h)))
    have e1 : ∀ S : Gs, ∀ z, app q z S j = S j := fun S z => by unfold app; rw [hq0]
    rw [e1, e1]
    unfold app
    cases hr : r j with
    | none => rfl
    | some p =>
      cases p with
      | none => rfl
      | some p =>
        obtain ⟨f, t⟩ := p
        obtain ⟨o1, o2, o3⟩ := hm.ok j f t hr
        show spW (some (0 + f, 0 + t)) = if (spW (some (0 + f, 0 + t))).1 = -1 then _ else _
        have hw : wrap64 (0 + f) = f := by unfold wrap64; omega
        rw [if_neg (by show ¬ wrap64 (0 + f) = -1; rw [hw]; omega)]
  · have hr0 : r j = none := hm.off j (by simpa using hj)
    have e1 : app r 0 none32 j = none := by unfold app; rw [hr0]; rfl
    have e2 : app q n (app r 0 none32) j = app q n none32 j := by
      unfold app
      cases q j with
      | none => rw [hr0]
      | some p => cases p <;> rfl
    rw [e1, e2]
    rfl
theorem good_row {c d : K.Cr} {v u : Vl} (hg : K.goodC (.mk 3 0 0 [c, d]) = true) (hc : goodV c v = true) (hd : goodV d u = true) : goodV (.mk 3 0 0 [c, d]) (.mk 3 0 [v, u]) = true := by
  unfold goodV at hc hd ⊢
  rw [Bool.and_eq_true] at hc hd
  rw [hg, Bool.true_and, bel_mk, belT_else (by decide)]
  simp [formV, belK, hc.2, hd.2]
end V
end Go.Proofs.YtonhmjfopidacaaDoor
