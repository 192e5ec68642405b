/- Regions that draw their order, over worlds of any class: a plain operation by one value that holds in every world of the class; any other carried out in the world at hand, which stays in the class. -/
import Derived.Test.YtaanhijjhllckaaEager
namespace Go.Proofs.Ytaanhijjhllckaa
set_option maxRecDepth 100000
open Go.RowKit
/-- a world of the class -/
structure HeldW (S : World → Prop) where
  val : World
  ok : S val
theorem HeldW.nonempty {S : World → Prop} {w : World} (h : S w) : Nonempty (HeldW S) := ⟨⟨w, h⟩⟩
/-- the class, as the walk's simp reads it -/
def HeldOf (S : World → Prop) (w : World) : Prop := ∃ L : HeldW S, w = L.val
section
variable {P : Program} {ops : Array Oper} {Q : Exit → Act → World → Prop} {md : Region.Mode} {S : World → Prop}
def stepHold (P : Program) (ops : Array Oper) (Q : Exit → Act → World → Prop) (S : World → Prop) (i : Nat) (K : Act → World → Prop) (a : Act) (w : World) : Prop :=
  ∃ o, ops[i]? = some o ∧ if Region.wanted o (yielded ops a.tmps) then o.wp P a w (fun a' w' => S w' ∧ K a' w') Q else K (a.put o.dst undef) w
def wpHold (P : Program) (ops : Array Oper) (Q : Exit → Act → World → Prop) (S : World → Prop) : Plan → Act → World → Prop
  | .done, a, w => Q .normal a w
  | .plain i r, a, w => ∃ o, ops[i]? = some o ∧ if Region.wanted o (yielded ops a.tmps) then o.quiet P a (fun w' => ∃ L : HeldW S, w' = L.val) (fun a' => wpHold P ops Q S r a' w) else wpHold P ops Q S r (a.put o.dst undef) w
  | .sole i r, a, w => stepHold P ops Q S i (wpHold P ops Q S r) a w
  | .fork i r j s, a, w => stepHold P ops Q S i (wpHold P ops Q S r) a w ∧ stepHold P ops Q S j (wpHold P ops Q S s) a w
  | .fork3 i r j s k t, a, w => stepHold P ops Q S i (wpHold P ops Q S r) a w ∧ stepHold P ops Q S j (wpHold P ops Q S s) a w ∧ stepHold P ops Q S k (wpHold P ops Q S t) a w
theorem stepHold_wp {i n : Nat} {l : Plan} {w : World} {a : Act} {listed : Array Bool} (hw : S w)
    (ih : ∀ (a : Act) (w : World), S w → wpHold P ops Q S l a w → wpAnyH P md ops Q (HeldOf S) n listed a w)
    (h : stepHold P ops Q S i (wpHold P ops Q S l) a w) : wpOp P ops Q i (fun a' w' => HeldOf S w' ∧ wpAnyH P md ops Q (HeldOf S) n listed a' w') a w := by
  obtain ⟨o, hi, h⟩ := h
  unfold wpOp
  simp only [hi]
  split
  · rename_i hwant
    rw [if_pos hwant] at h
    exact .inl (Oper.wp_mono (fun a' w' ⟨h1, h2⟩ => ⟨⟨⟨w', h1⟩, rfl⟩, ih a' w' h1 h2⟩) h)
  · rename_i hwant
    rw [if_neg hwant] at h
    exact ⟨⟨⟨w, hw⟩, rfl⟩, ih _ w hw h⟩
theorem hold_any (hsel : Region.noSelect ops = true) (hQ : ∀ c (a : Act) (d : Option Nat) (v : Value) w, Q (.panic c) (a.put d v) w → Q (.panic c) a w) :
    ∀ (l : Plan) (n : Nat) (listed : Array Bool), l.fits md ops n listed = true → ∀ (a : Act) (w : World), S w → wpHold P ops Q S l a w → wpAnyH P md ops Q (HeldOf S) n listed a w
  | .done, 0, listed, hB, a, w, _, h => ⟨by simpa [Plan.fits] using hB, h⟩
  | .done, n + 1, _, hB, _, _, _, _ => by simp [Plan.fits] at hB
  | .plain _ _, 0, _, hB, _, _, _, _ => by simp [Plan.fits] at hB
  | .sole _ _, 0, _, hB, _, _, _, _ => by simp [Plan.fits] at hB
  | .fork _ _ _ _, 0, _, hB, _, _, _, _ => by simp [Plan.fits] at hB
  | .fork3 _ _ _ _ _ _, 0, _, hB, _, _, _, _ => by simp [Plan.fits] at hB
  | .plain i l, n + 1, listed, hB, a, w, hw, h => by
    unfold wpHold at h
    obtain ⟨o, hi, h⟩ := h
    simp only [Plan.fits, Bool.and_eq_true, hi] at hB
    obtain ⟨⟨⟨hr, hf⟩, hp⟩, hB'⟩ := hB
    split at h
    · rename_i hwant
      obtain ⟨v, hv, hk⟩ := h
      exact wpAnyH_take hi hsel hf hr (fun c a w => hQ c a _ _ w) (yieldsIf_of_quiet hp hwant hv) ⟨⟨w, hw⟩, rfl⟩ (hold_any hsel hQ l n _ hB' _ w hw hk)
    · rename_i hwant
      exact wpAnyH_take hi hsel hf hr (fun c a w => hQ c a _ _ w) (.inr ⟨by simpa using hwant, rfl⟩) ⟨⟨w, hw⟩, rfl⟩ (hold_any hsel hQ l n _ hB' _ w hw h)
  | .sole i l, n + 1, listed, hB, a, w, hw, h => by
    simp only [Plan.fits, Bool.and_eq_true, beq_iff_eq] at hB
    obtain ⟨hr, hB'⟩ := hB
    refine ⟨fun h0 => (by rw [hr] at h0; cases h0), fun j hj => ?_⟩
    rw [hr] at hj
    obtain rfl : j = i := by simpa using hj
    exact stepHold_wp hw (hold_any hsel hQ l n _ hB') h
  | .fork i l j s, n + 1, listed, hB, a, w, hw, h => by
    simp only [Plan.fits, Bool.and_eq_true, beq_iff_eq] at hB
    obtain ⟨⟨hr, hB1⟩, hB2⟩ := hB
    refine ⟨fun h0 => (by rw [hr] at h0; cases h0), fun k hk => ?_⟩
    rw [hr] at hk
    have hk' : k = i ∨ k = j := by simpa using hk
    rcases hk' with rfl | rfl
    · exact stepHold_wp hw (hold_any hsel hQ l n _ hB1) h.1
    · exact stepHold_wp hw (hold_any hsel hQ s n _ hB2) h.2
  | .fork3 i l j s k t, n + 1, listed, hB, a, w, hw, h => by
    simp only [Plan.fits, Bool.and_eq_true, beq_iff_eq] at hB
    obtain ⟨⟨⟨hr, hB1⟩, hB2⟩, hB3⟩ := hB
    refine ⟨fun h0 => (by rw [hr] at h0; cases h0), fun q hq => ?_⟩
    rw [hr] at hq
    have hq' : q = i ∨ q = j ∨ q = k := by simpa using hq
    rcases hq' with rfl | rfl | rfl
    · exact stepHold_wp hw (hold_any hsel hQ l n _ hB1) h.1
    · exact stepHold_wp hw (hold_any hsel hQ s n _ hB2) h.2.1
    · exact stepHold_wp hw (hold_any hsel hQ t n _ hB3) h.2.2
theorem wp_region_hold {id : Nat} {a : Act} {w : World} {lo : List Oper} (S : World → Prop) (l : Plan) (hw : S w.drew) (hm : P.follows .mixedOrders = true) (hB : eagerB .any lo.toArray l = true)
    (hQ : ∀ c (a : Act) (d : Option Nat) (v : Value) w, Q (.panic c) (a.put d v) w → Q (.panic c) a w)
    (h : wpHold P lo.toArray Q S l a w.drew) : (Code.region id lo.toArray true).wp P Q a w := by
  simp only [eagerB, Bool.and_eq_true] at hB
  exact wp_region_held (S := HeldOf S) hm (hold_any hB.1 hQ l _ _ hB.2 a _ hw h)
variable {w : World} {a : Act} {o : Oper} {i : Nat} {r : Plan}
theorem hold_skip (ho : ops[i]? = some o) (hw : Region.wanted o (yielded ops a.tmps) = false) (h : wpHold P ops Q S r (a.put o.dst undef) w) : wpHold P ops Q S (.plain i r) a w := by
  unfold wpHold; exact ⟨o, ho, by rw [if_neg (by rw [hw]; exact Bool.false_ne_true)]; exact h⟩
theorem hold_want (ho : ops[i]? = some o) (hw : Region.wanted o (yielded ops a.tmps) = true)
    (h : ∀ K : Act → Prop, (∀ a', wpHold P ops Q S r a' w → K a') → o.quiet P a (fun w' => ∃ L : HeldW S, w' = L.val) K) : wpHold P ops Q S (.plain i r) a w := by
  unfold wpHold
  exact ⟨o, ho, by rw [if_pos hw]; exact h _ (fun _ h => h)⟩
theorem hold_step (ho : ops[i]? = some o) (hw : Region.wanted o (yielded ops a.tmps) = true)
    (h : ∀ K : Act → World → Prop, (∀ a' w', S w' → wpHold P ops Q S r a' w' → K a' w') → o.wp P a w K Q) : stepHold P ops Q S i (wpHold P ops Q S r) a w :=
  ⟨o, ho, by rw [if_pos hw]; exact h _ (fun _ _ h1 h2 => ⟨h1, h2⟩)⟩
theorem hold_sole (ho : ops[i]? = some o) (hw : Region.wanted o (yielded ops a.tmps) = true)
    (h : ∀ K : Act → World → Prop, (∀ a' w', S w' → wpHold P ops Q S r a' w' → K a' w') → o.wp P a w K Q) : wpHold P ops Q S (.sole i r) a w := hold_step ho hw h
theorem hold_sole_skip (ho : ops[i]? = some o) (hw : Region.wanted o (yielded ops a.tmps) = false) (h : wpHold P ops Q S r (a.put o.dst undef) w) : wpHold P ops Q S (.sole i r) a w :=
  ⟨o, ho, by rw [if_neg (by rw [hw]; exact Bool.false_ne_true)]; exact h⟩
theorem hold_fork {j : Nat} {s : Plan} (h1 : stepHold P ops Q S i (wpHold P ops Q S r) a w) (h2 : stepHold P ops Q S j (wpHold P ops Q S s) a w) : wpHold P ops Q S (.fork i r j s) a w := ⟨h1, h2⟩
theorem hold_fork3 {j k : Nat} {s t : Plan} (h1 : stepHold P ops Q S i (wpHold P ops Q S r) a w) (h2 : stepHold P ops Q S j (wpHold P ops Q S s) a w) (h3 : stepHold P ops Q S k (wpHold P ops Q S t) a w) : wpHold P ops Q S (.fork3 i r j s k t) a w := ⟨h1, h2, h3⟩
theorem hold_done (h : Q .normal a w) : wpHold P ops Q S .done a w := h
end
end Go.Proofs.Ytaanhijjhllckaa
