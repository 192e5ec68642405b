/- As AnyGuard, where a guard may also be known to be false: what it guards is then passed over. -/
import Derived.Test.YtonhmjfopidacaaDoorAnyAll
namespace Go.Proofs.YtonhmjfopidacaaDoor
set_option maxRecDepth 100000
open Go.RowKit
section
variable {P : Program} {ops : Array Oper} {Q : Exit → Act → World → Prop}
/-- whether an operation is wanted, the guards' slots being known -/
def wantG (gs : List (Nat × Bool)) (o : Oper) : Bool := match o.guard with
  | none => true
  | some (j, want) => gs.lookup j == some want
def guardsB2 (ops : Array Oper) (gs : List (Nat × Bool)) : Bool := ops.toList.all fun o => match o.guard with
  | none => true
  | some (j, _) => (gs.lookup j).isSome
theorem lookup_mem {j : Nat} {q : Bool} : ∀ gs : List (Nat × Bool), gs.lookup j = some q → (j, q) ∈ gs
  | [], h => by cases h
  | (a, b) :: gs, h => by
    rw [List.lookup_cons] at h
    split at h
    · rename_i he
      injection h with h
      rw [beq_iff_eq] at he
      subst he h
      simp
    · exact List.mem_cons_of_mem _ (lookup_mem gs h)
theorem guards_get2 {gs : List (Nat × Bool)} (h : guardsB2 ops gs = true) {i j : Nat} {o : Oper} {want : Bool} (hi : ops[i]? = some o) (hg : o.guard = some (j, want)) : ∃ q, (j, q) ∈ gs ∧ gs.lookup j = some q := by
  unfold guardsB2 at h
  rw [List.all_eq_true] at h
  have h1 := h o (Array.mem_toList_iff.2 (Array.mem_of_getElem? hi))
  rw [hg] at h1
  simp only [Option.isSome_iff_exists] at h1
  obtain ⟨q, hq⟩ := h1
  exact ⟨q, lookup_mem gs hq, hq⟩
theorem wp_region_guards2 {id : Nat} {a : Act} {w W0 : World} (Val : Nat → Value → World → Prop) (hm : P.follows .mixedOrders = true) (hb : backB .any ops = true) (hs : slotsGB ops a.tmps.size = true) (hw : Below W0.heap.size W0 w)
    (hstable : ∀ i v w w', Val i v w → KeepsC w w' → Val i v w')
    (gs : List (Nat × Bool)) (hgB : guardsB2 ops gs = true) (hguard : ∀ p ∈ gs, ∀ v w, Val p.1 v w → v = .bool p.2)
    (hskip : ∀ i o, ops[i]? = some o → wantG gs o = false → ∀ w, Val i undef w)
    (hop : ∀ i o, ops[i]? = some o → wantG gs o = true → ∀ (a' : Act) (w' : World), Below W0.heap.size W0 w' → (∀ k, noDstB ops k = true → a'.tmps[k]? = a.tmps[k]?) →
      (∀ j o' d, ops[j]? = some o' → o'.dst = some d → (∃ e ∈ o.after, Region.binds .any e = true ∧ e.on = j) → ∃ v, a'.tmps[d]? = some v ∧ Val j v w') →
      ∀ K : Act → World → Prop, (∀ v w2, Below W0.heap.size W0 w2 → KeepsC w' w2 → Val i v w2 → K (a'.put o.dst v) w2) → o.wp P a' w' K Q)
    (hend : ∀ a' w', Below W0.heap.size W0 w' → a'.defers = a.defers → a'.tmps.size = a.tmps.size → (∀ k, noDstB ops k = true → a'.tmps[k]? = a.tmps[k]?) →
      (∀ i o d, ops[i]? = some o → o.dst = some d → ∃ v, a'.tmps[d]? = some v ∧ Val i v w') → Q .normal a' w') : (Code.region id ops true).wp P Q a w := by
  have hnd : ∀ {k : Nat}, noDstB ops k = true → ∀ o ∈ ops, o.dst ≠ some k := fun h o ho => by
    unfold noDstB at h
    rw [Array.all_eq_true_iff_forall_mem] at h
    simpa using h o ho
  refine wp_region_inv (SlotInv ops Val a W0) hm hb ?_ ?_ ?_
  · rintro listed a' w' i o hsz ⟨h1, h2, h3, h4, h5⟩ hi hl hdeps
    obtain ⟨hg, d, hd, hdn, hne⟩ := slotsG_get hs hi
    have hlisted : ∀ e ∈ o.after, Region.binds .any e = true → e.on < ops.size ∧ listed.getD e.on true = true := fun e he hbd => by
      have h6 := hdeps e he hbd
      have hjlt : e.on < listed.size := by
        apply Classical.byContradiction
        intro hn
        rw [Array.getD_eq_getD_getElem?, Array.getElem?_eq_none (by omega)] at h6
        cases h6
      refine ⟨by omega, ?_⟩
      rw [Array.getD_eq_getD_getElem?, Array.getElem?_eq_getElem hjlt] at h6 ⊢
      exact h6
    unfold wpOp
    rw [hi]
    have hwant : Region.wanted o (yielded ops a'.tmps) = wantG gs o := by
      unfold Region.wanted wantG
      cases hgd : o.guard with
      | none => rfl
      | some g =>
        obtain ⟨j, want⟩ := g
        obtain ⟨e, he, hbd, hej⟩ := hg j want hgd
        obtain ⟨hlt, hlj⟩ := hlisted e he hbd
        rw [hej] at hlt hlj
        obtain ⟨_, d', hd', _, _⟩ := slotsG_get hs (Array.getElem?_eq_getElem hlt)
        obtain ⟨v, hv, hV⟩ := h5 j _ d' (Array.getElem?_eq_getElem hlt) hd' hlj
        obtain ⟨q, hq, hq1⟩ := guards_get2 hgB hi hgd
        have hvb := hguard (j, q) hq v w' hV
        subst hvb
        simp only [yielded, Array.getElem?_eq_getElem hlt, Option.bind_some, hd', hv]
        rw [hq1]
        try (cases q <;> cases want <;> rfl)
    have hend2 : ∀ v w2, Below W0.heap.size W0 w2 → KeepsC w' w2 → Val i v w2 → SlotInv ops Val a W0 (listed.setIfInBounds i true) (a'.put o.dst v) w2 := fun v w2 hb2 hk2 hv => by
      have hput : (a'.put o.dst v).tmps = a'.tmps.setIfInBounds d v := by rw [hd]; rfl
      have hdef : (a'.put o.dst v).defers = a'.defers := by rw [hd]; rfl
      refine ⟨hb2, by rw [hdef]; exact h2, by rw [hput, Array.size_setIfInBounds]; exact h3, fun k hk => ?_, fun j o' d' hj hd' hlj => ?_⟩
      · rw [hput, Array.getElem?_setIfInBounds, if_neg (fun e => hk o (Array.mem_of_getElem? hi) (by rw [hd, e]))]
        exact h4 k hk
      · by_cases hji : j = i
        · subst hji
          obtain rfl : o' = o := Option.some.inj (hj.symm.trans hi)
          obtain rfl : d' = d := Option.some.inj (hd'.symm.trans hd)
          exact ⟨v, by rw [hput, Array.getElem?_setIfInBounds, if_pos rfl, if_pos (by rw [h3]; first | exact hdn | (have h9 := hd; rw [hd'] at h9; cases h9; exact hdn))], hv⟩
        · have hlj' : listed.getD j true = true := by
            have e : (listed.setIfInBounds i true).getD j true = listed.getD j true := by
              rw [Array.getD_eq_getD_getElem?, Array.getD_eq_getD_getElem?, Array.getElem?_setIfInBounds, if_neg (Ne.symm hji)]
            rw [← e]; exact hlj
          obtain ⟨u, hu, hV⟩ := h5 j o' d' hj hd' hlj'
          refine ⟨u, ?_, hstable j u w' w2 hV hk2⟩
          rw [hput, Array.getElem?_setIfInBounds, if_neg (fun e => hne j o' hj hji (by rw [hd', e]))]
          exact hu
    show if Region.wanted o (yielded ops a'.tmps) = true then _ else _
    rw [hwant]
    cases hwg : wantG gs o with
    | false =>
      rw [if_neg (by decide)]
      exact hend2 undef w' h1 (KeepsC.of_below (Below.refl _ _)) (hskip i o hi hwg w')
    | true =>
    rw [if_pos rfl]
    refine .inl (hop i o hi hwg a' w' h1 (fun k hk => h4 k (hnd hk)) (fun j o' d' hj hd' ⟨e, he, hbd, hej⟩ => h5 j o' d' hj hd' (by rw [← hej]; exact (hlisted e he hbd).2)) _ fun v w2 hb2 hk2 hv => hend2 v w2 hb2 hk2 hv)
  · rintro listed a' w' hall hsz ⟨h1, h2, h3, h4, h5⟩
    exact hend a' w' h1 h2 h3 (fun k hk => h4 k (hnd hk)) fun i o d hi hd => h5 i o d hi hd (hall i (Array.getElem?_eq_some_iff.1 hi).1)
  · refine ⟨hw.drew, rfl, rfl, fun _ _ => rfl, fun i o d hi hd hl => ?_⟩
    have hlt := (Array.getElem?_eq_some_iff.1 hi).1
    rw [Array.getD_eq_getD_getElem?, Array.getElem?_eq_getElem (by simpa using hlt)] at hl
    simp at hl
end
end Go.Proofs.YtonhmjfopidacaaDoor
