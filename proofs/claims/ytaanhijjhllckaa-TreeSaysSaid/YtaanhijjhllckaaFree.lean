/- Regions that draw their order and write: every order told by a plan; a plain operation here reads no memory. -/
import Derived.Test.YtaanhijjhllckaaEager
namespace Go.Proofs.Ytaanhijjhllckaa
set_option maxRecDepth 100000
section
variable {P : Program} {ops : Array Oper} {Q : Exit → Act → World → Prop} {md : Region.Mode}
def stepFree (P : Program) (ops : Array Oper) (Q : Exit → Act → World → Prop) (i : Nat) (K : Act → World → Prop) (a : Act) (w : World) : Prop :=
  ∃ o, ops[i]? = some o ∧ if Region.wanted o (yielded ops a.tmps) then o.wp P a w K Q else K (a.put o.dst undef) w
def wpFree (P : Program) (ops : Array Oper) (Q : Exit → Act → World → Prop) : Plan → Act → World → Prop
  | .done, a, w => Q .normal a w
  | .plain i r, a, w => ∃ o, ops[i]? = some o ∧ if Region.wanted o (yielded ops a.tmps) then o.quiet P a (fun _ => True) (fun a' => wpFree P ops Q r a' w) else wpFree P ops Q r (a.put o.dst undef) w
  | .sole i r, a, w => stepFree P ops Q i (wpFree P ops Q r) a w
  | .fork i r j s, a, w => stepFree P ops Q i (wpFree P ops Q r) a w ∧ stepFree P ops Q j (wpFree P ops Q s) a w
  | .fork3 i r j s k t, a, w => stepFree P ops Q i (wpFree P ops Q r) a w ∧ stepFree P ops Q j (wpFree P ops Q s) a w ∧ stepFree P ops Q k (wpFree P ops Q t) a w
theorem stepFree_wp {i n : Nat} {l : Plan} {w : World} {a : Act} {listed : Array Bool} (ih : ∀ (a : Act) (w : World), wpFree P ops Q l a w → wpAnyH P md ops Q (fun _ => True) n listed a w)
    (h : stepFree P ops Q i (wpFree P ops Q l) a w) : wpOp P ops Q i (fun a' w' => True ∧ wpAnyH P md ops Q (fun _ => True) n listed a' w') a w := by
  obtain ⟨o, hi, h⟩ := h
  unfold wpOp
  simp only [hi]
  split
  · rename_i hwant
    rw [if_pos hwant] at h
    exact .inl (Oper.wp_mono (fun a' w' h1 => ⟨trivial, ih a' w' h1⟩) h)
  · rename_i hwant
    rw [if_neg hwant] at h
    exact ⟨trivial, ih _ w h⟩
theorem free_any (hsel : Region.noSelect ops = true) (hQ : ∀ c (a : Act) (d : Option Nat) (v : Value) w, Q (.panic c) (a.put d v) w → Q (.panic c) a w) :
    ∀ (l : Plan) (n : Nat) (listed : Array Bool), l.fits md ops n listed = true → ∀ (a : Act) (w : World), wpFree P ops Q l a w → wpAnyH P md ops Q (fun _ => True) n listed a w
  | .done, 0, listed, hB, a, w, h => ⟨by simpa [Plan.fits] using hB, h⟩
  | .done, n + 1, _, hB, _, _, _ => by simp [Plan.fits] at hB
  | .plain _ _, 0, _, hB, _, _, _ => by simp [Plan.fits] at hB
  | .sole _ _, 0, _, hB, _, _, _ => by simp [Plan.fits] at hB
  | .fork _ _ _ _, 0, _, hB, _, _, _ => by simp [Plan.fits] at hB
  | .fork3 _ _ _ _ _ _, 0, _, hB, _, _, _ => by simp [Plan.fits] at hB
  | .plain i l, n + 1, listed, hB, a, w, h => by
    unfold wpFree at h
    obtain ⟨o, hi, h⟩ := h
    simp only [Plan.fits, Bool.and_eq_true, hi] at hB
    obtain ⟨⟨⟨hr, hf⟩, hp⟩, hB'⟩ := hB
    split at h
    · rename_i hwant
      obtain ⟨v, hv, hk⟩ := h
      exact wpAnyH_take hi hsel hf hr (fun c a w => hQ c a _ _ w) (yieldsIf_of_quiet hp hwant hv) trivial (free_any hsel hQ l n _ hB' _ w hk)
    · rename_i hwant
      exact wpAnyH_take hi hsel hf hr (fun c a w => hQ c a _ _ w) (.inr ⟨by simpa using hwant, rfl⟩) trivial (free_any hsel hQ l n _ hB' _ w h)
  | .sole i l, n + 1, listed, hB, a, w, h => by
    simp only [Plan.fits, Bool.and_eq_true, beq_iff_eq] at hB
    obtain ⟨hr, hB'⟩ := hB
    refine ⟨fun h0 => (by rw [hr] at h0; cases h0), fun j hj => ?_⟩
    rw [hr] at hj
    obtain rfl : j = i := by simpa using hj
    exact stepFree_wp (free_any hsel hQ l n _ hB') h
  | .fork i l j s, n + 1, listed, hB, a, w, h => by
    simp only [Plan.fits, Bool.and_eq_true, beq_iff_eq] at hB
    obtain ⟨⟨hr, hB1⟩, hB2⟩ := hB
    refine ⟨fun h0 => (by rw [hr] at h0; cases h0), fun k hk => ?_⟩
    rw [hr] at hk
    have hk' : k = i ∨ k = j := by simpa using hk
    rcases hk' with rfl | rfl
    · exact stepFree_wp (free_any hsel hQ l n _ hB1) h.1
    · exact stepFree_wp (free_any hsel hQ s n _ hB2) h.2
  | .fork3 i l j s k t, n + 1, listed, hB, a, w, h => by
    simp only [Plan.fits, Bool.and_eq_true, beq_iff_eq] at hB
    obtain ⟨⟨⟨hr, hB1⟩, hB2⟩, hB3⟩ := hB
    refine ⟨fun h0 => (by rw [hr] at h0; cases h0), fun q hq => ?_⟩
    rw [hr] at hq
    have hq' : q = i ∨ q = j ∨ q = k := by simpa using hq
    rcases hq' with rfl | rfl | rfl
    · exact stepFree_wp (free_any hsel hQ l n _ hB1) h.1
    · exact stepFree_wp (free_any hsel hQ s n _ hB2) h.2.1
    · exact stepFree_wp (free_any hsel hQ t n _ hB3) h.2.2
theorem wp_region_free {id : Nat} {a : Act} {w : World} {lo : List Oper} (l : Plan) (hm : P.follows .mixedOrders = true) (hB : eagerB .any lo.toArray l = true)
    (hQ : ∀ c (a : Act) (d : Option Nat) (v : Value) w, Q (.panic c) (a.put d v) w → Q (.panic c) a w)
    (h : wpFree P lo.toArray Q l a w.drew) : (Code.region id lo.toArray true).wp P Q a w := by
  simp only [eagerB, Bool.and_eq_true] at hB
  exact wp_region_held (S := fun _ => True) hm (free_any hB.1 hQ l _ _ hB.2 a _ h)
variable {w : World} {a : Act} {o : Oper} {i : Nat} {r : Plan}
theorem free_step (ho : ops[i]? = some o) (hw : Region.wanted o (yielded ops a.tmps) = true)
    (h : ∀ K : Act → World → Prop, (∀ a' w', wpFree P ops Q r a' w' → K a' w') → o.wp P a w K Q) : stepFree P ops Q i (wpFree P ops Q r) a w :=
  ⟨o, ho, by rw [if_pos hw]; exact h _ (fun _ _ h1 => h1)⟩
theorem free_sole (ho : ops[i]? = some o) (hw : Region.wanted o (yielded ops a.tmps) = true)
    (h : ∀ K : Act → World → Prop, (∀ a' w', wpFree P ops Q r a' w' → K a' w') → o.wp P a w K Q) : wpFree P ops Q (.sole i r) a w := free_step ho hw h
theorem free_fork {j : Nat} {s : Plan} (h1 : stepFree P ops Q i (wpFree P ops Q r) a w) (h2 : stepFree P ops Q j (wpFree P ops Q s) a w) : wpFree P ops Q (.fork i r j s) a w := ⟨h1, h2⟩
theorem free_plain (ho : ops[i]? = some o) (hw : Region.wanted o (yielded ops a.tmps) = true)
    (h : ∀ K : Act → Prop, (∀ a', wpFree P ops Q r a' w → K a') → o.quiet P a (fun _ => True) K) : wpFree P ops Q (.plain i r) a w := by
  unfold wpFree
  exact ⟨o, ho, by rw [if_pos hw]; exact h _ (fun _ h => h)⟩
theorem free_done (h : Q .normal a w) : wpFree P ops Q .done a w := h
end
end Go.Proofs.Ytaanhijjhllckaa
