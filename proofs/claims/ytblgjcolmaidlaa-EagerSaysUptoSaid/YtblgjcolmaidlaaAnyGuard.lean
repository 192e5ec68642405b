/- A region whose operations may come in many orders, some of them guarded by what has come before: each slot by what is known of it; a marked block is as good as an unmarked one. -/
import Derived.Test.YtblgjcolmaidlaaAnyInv
namespace Go.Proofs.Ytblgjcolmaidlaa
set_option maxRecDepth 100000
open Go.RowKit
/-- all cells stay, whatever is marked -/
def KeepsC (w w' : World) : Prop := w.heap.size ≤ w'.heap.size ∧ ∀ (k : Nat) (cs : Array Value) (t : TypeId) (f : Nat × Nat), w.heap[k]? = some (.cells cs t f) → ∃ f' : Nat × Nat, w'.heap[k]? = some (.cells cs t f')
theorem KeepsC.of_below {w w' : World} (h : Below w.heap.size w w') : KeepsC w w' :=
  ⟨h.size, fun k _ _ f hk => ⟨f, by rw [h.block k (Array.getElem?_eq_some_iff.1 hk).1]; exact hk⟩⟩
theorem KeepsC.cell {w w' : World} (h : KeepsC w w') {p : Addr} {v : Value} (hp : w.cell? p = some v) : w'.cell? p = some v := by
  unfold World.cell? at hp ⊢
  cases ho : w.heap[p.block]? with
  | none => rw [ho] at hp; cases hp
  | some o =>
    rw [ho] at hp
    cases o with
    | cells cs t f =>
      obtain ⟨f', hf⟩ := h.2 _ cs t f ho
      rw [hf]; exact hp
    | _ => cases hp
section
variable {P : Program} {ops : Array Oper} {Q : Exit → Act → World → Prop}
def slotsGB (ops : Array Oper) (n : Nat) : Bool := (List.range ops.size).all fun i => ((ops[i]?).map fun o => (match o.guard with
  | none => true
  | some (j, _) => o.after.toList.any fun e => Region.binds .any e && e.on == j) && (match o.dst with
  | some d => decide (d < n) && (List.range ops.size).all fun j => i == j || ((ops[j]?).map fun o' => decide (o'.dst ≠ some d)).getD true
  | none => false)).getD true
theorem slotsG_get {n : Nat} (h : slotsGB ops n = true) {i : Nat} {o : Oper} (hi : ops[i]? = some o) : (∀ j want, o.guard = some (j, want) → ∃ e ∈ o.after, Region.binds .any e = true ∧ e.on = j) ∧ ∃ d, o.dst = some d ∧ d < n ∧ ∀ j o', ops[j]? = some o' → j ≠ i → o'.dst ≠ some d := by
  have hlt := (Array.getElem?_eq_some_iff.1 hi).1
  unfold slotsGB at h
  rw [List.all_eq_true] at h
  have h1 := h i (List.mem_range.2 hlt)
  rw [hi] at h1
  simp only [Option.map_some, Option.getD_some, Bool.and_eq_true] at h1
  obtain ⟨hg, h2⟩ := h1
  refine ⟨fun j want hgd => ?_, ?_⟩
  · rw [hgd] at hg
    simp only [List.any_eq_true, Bool.and_eq_true, beq_iff_eq] at hg
    obtain ⟨e, he, h3, h4⟩ := hg
    exact ⟨e, Array.mem_toList_iff.1 he, h3, h4⟩
  · cases hd : o.dst with
    | none => rw [hd] at h2; cases h2
    | some d =>
      rw [hd] at h2
      simp only [Bool.and_eq_true, decide_eq_true_eq, List.all_eq_true] at h2
      refine ⟨d, rfl, h2.1, fun j o' hj hne => ?_⟩
      have h3 := h2.2 j (List.mem_range.2 (Array.getElem?_eq_some_iff.1 hj).1)
      rw [hj] at h3
      simp only [Option.map_some, Option.getD_some, Bool.or_eq_true, beq_iff_eq, decide_eq_true_eq] at h3
      rcases h3 with h3 | h3
      · exact absurd h3.symm hne
      · exact h3
def guardsB (ops : Array Oper) (gs : List Nat) : Bool := ops.toList.all fun o => match o.guard with
  | none => true
  | some (j, want) => want && gs.contains j
theorem guards_get {gs : List Nat} (h : guardsB ops gs = true) {i j : Nat} {o : Oper} {want : Bool} (hi : ops[i]? = some o) (hg : o.guard = some (j, want)) : want = true ∧ j ∈ gs := by
  unfold guardsB at h
  rw [List.all_eq_true] at h
  have h1 := h o (Array.mem_toList_iff.2 (Array.mem_of_getElem? hi))
  rw [hg] at h1
  simpa using h1
theorem wp_region_guards {id : Nat} {a : Act} {w W0 : World} (Val : Nat → Value → World → Prop) (hm : P.follows .mixedOrders = true) (hb : backB .any ops = true) (hs : slotsGB ops a.tmps.size = true) (hw : Below W0.heap.size W0 w)
    (hstable : ∀ i v w w', Val i v w → KeepsC w w' → Val i v w')
    (gs : List Nat) (hgB : guardsB ops gs = true) (hguard : ∀ j ∈ gs, ∀ v w, Val j v w → v = .bool true)
    (hop : ∀ i o, ops[i]? = some o → ∀ (a' : Act) (w' : World), Below W0.heap.size W0 w' → (∀ k, noDstB ops k = true → a'.tmps[k]? = a.tmps[k]?) →
      (∀ j o' d, ops[j]? = some o' → o'.dst = some d → (∃ e ∈ o.after, Region.binds .any e = true ∧ e.on = j) → ∃ v, a'.tmps[d]? = some v ∧ Val j v w') →
      ∀ K : Act → World → Prop, (∀ v w2, Below W0.heap.size W0 w2 → KeepsC w' w2 → Val i v w2 → K (a'.put o.dst v) w2) → o.wp P a' w' K Q)
    (hend : ∀ a' w', Below W0.heap.size W0 w' → a'.defers = a.defers → a'.tmps.size = a.tmps.size → (∀ k, noDstB ops k = true → a'.tmps[k]? = a.tmps[k]?) →
      (∀ i o d, ops[i]? = some o → o.dst = some d → ∃ v, a'.tmps[d]? = some v ∧ Val i v w') → Q .normal a' w') : (Code.region id ops true).wp P Q a w := by
  have hnd : ∀ {k : Nat}, noDstB ops k = true → ∀ o ∈ ops, o.dst ≠ some k := fun h o ho => by
    unfold noDstB at h
    rw [Array.all_eq_true_iff_forall_mem] at h
    simpa using h o ho
  refine wp_region_inv (SlotInv ops Val a W0) hm hb ?_ ?_ ?_
  · rintro listed a' w' i o hsz ⟨h1, h2, h3, h4, h5⟩ hi hl hdeps
    obtain ⟨hg, d, hd, hdn, hne⟩ := slotsG_get hs hi
    have hlisted : ∀ e ∈ o.after, Region.binds .any e = true → e.on < ops.size ∧ listed.getD e.on true = true := fun e he hbd => by
      have h6 := hdeps e he hbd
      have hjlt : e.on < listed.size := by
        apply Classical.byContradiction
        intro hn
        rw [Array.getD_eq_getD_getElem?, Array.getElem?_eq_none (by omega)] at h6
        cases h6
      refine ⟨by omega, ?_⟩
      rw [Array.getD_eq_getD_getElem?, Array.getElem?_eq_getElem hjlt] at h6 ⊢
      exact h6
    unfold wpOp
    rw [hi]
    have hwant : Region.wanted o (yielded ops a'.tmps) = true := by
      unfold Region.wanted
      cases hgd : o.guard with
      | none => rfl
      | some g =>
        obtain ⟨j, want⟩ := g
        obtain ⟨e, he, hbd, hej⟩ := hg j want hgd
        obtain ⟨hlt, hlj⟩ := hlisted e he hbd
        rw [hej] at hlt hlj
        obtain ⟨_, d', hd', _, _⟩ := slotsG_get hs (Array.getElem?_eq_getElem hlt)
        obtain ⟨v, hv, hV⟩ := h5 j _ d' (Array.getElem?_eq_getElem hlt) hd' hlj
        obtain ⟨hwt, hjg⟩ := guards_get hgB hi hgd
        have hvb := hguard j hjg v w' hV
        subst hvb hwt
        simp only [yielded, Array.getElem?_eq_getElem hlt, Option.bind_some, hd', hv, beq_self_eq_true]
    simp only [hwant, if_true]
    refine .inl (hop i o hi a' w' h1 (fun k hk => h4 k (hnd hk)) (fun j o' d' hj hd' ⟨e, he, hbd, hej⟩ => h5 j o' d' hj hd' (by rw [← hej]; exact (hlisted e he hbd).2)) _ fun v w2 hb2 hk2 hv => ?_)
    · have hput : (a'.put o.dst v).tmps = a'.tmps.setIfInBounds d v := by rw [hd]; rfl
      have hdef : (a'.put o.dst v).defers = a'.defers := by rw [hd]; rfl
      refine ⟨hb2, by rw [hdef]; exact h2, by rw [hput, Array.size_setIfInBounds]; exact h3, fun k hk => ?_, fun j o' d' hj hd' hlj => ?_⟩
      · rw [hput, Array.getElem?_setIfInBounds, if_neg (fun e => hk o (Array.mem_of_getElem? hi) (by rw [hd, e]))]
        exact h4 k hk
      · by_cases hji : j = i
        · subst hji
          obtain rfl : o' = o := Option.some.inj (hj.symm.trans hi)
          obtain rfl : d' = d := Option.some.inj (hd'.symm.trans hd)
          exact ⟨v, by rw [hput, Array.getElem?_setIfInBounds, if_pos rfl, if_pos (by rw [h3]; first | exact hdn | (have h9 := hd; rw [hd'] at h9; cases h9; exact hdn))], hv⟩
        · have hlj' : listed.getD j true = true := by
            have e : (listed.setIfInBounds i true).getD j true = listed.getD j true := by
              rw [Array.getD_eq_getD_getElem?, Array.getD_eq_getD_getElem?, Array.getElem?_setIfInBounds, if_neg (Ne.symm hji)]
            rw [← e]; exact hlj
          obtain ⟨u, hu, hV⟩ := h5 j o' d' hj hd' hlj'
          refine ⟨u, ?_, hstable j u w' w2 hV hk2⟩
          rw [hput, Array.getElem?_setIfInBounds, if_neg (fun e => hne j o' hj hji (by rw [hd', e]))]
          exact hu
  · rintro listed a' w' hall hsz ⟨h1, h2, h3, h4, h5⟩
    exact hend a' w' h1 h2 h3 (fun k hk => h4 k (hnd hk)) fun i o d hi hd => h5 i o d hi hd (hall i (Array.getElem?_eq_some_iff.1 hi).1)
  · refine ⟨hw.drew, rfl, rfl, fun _ _ => rfl, fun i o d hi hd hl => ?_⟩
    have hlt := (Array.getElem?_eq_some_iff.1 hi).1
    rw [Array.getD_eq_getD_getElem?, Array.getElem?_eq_getElem (by simpa using hlt)] at hl
    simp at hl
end
end Go.Proofs.Ytblgjcolmaidlaa
