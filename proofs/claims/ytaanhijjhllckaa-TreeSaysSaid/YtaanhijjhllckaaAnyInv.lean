/- A region whose operations may come in many orders: one invariant that speaks of the operations that have come, each by what it has handed back, whatever the order. -/
import Derived.Test.YtaanhijjhllckaaLater
import Derived.Deep.RegionHeld
namespace Go.Proofs.Ytaanhijjhllckaa
set_option maxRecDepth 100000
open Go.RowKit

section
variable {P : Program} {ops : Array Oper} {Q : Exit → Act → World → Prop} {md : Region.Mode}
/-- how many have not come yet -/
def toCome (n : Nat) (listed : Array Bool) : Nat := (List.range n).countP fun i => !listed.getD i true
theorem countP_set (listed : Array Bool) (i : Nat) (hi : i < listed.size) (h : listed.getD i true = false) : ∀ (l : List Nat), l.Nodup → i ∈ l → (l.countP fun j => !(listed.setIfInBounds i true).getD j true) + 1 = l.countP fun j => !listed.getD j true
  | [], _, hm => by simp at hm
  | j :: l, hn, hm => by
    rw [List.nodup_cons] at hn
    have hset : ∀ j, (listed.setIfInBounds i true).getD j true = if j = i then true else listed.getD j true := fun j => by
      by_cases hj : j = i
      · subst hj; simp [hi]
      · simp [hj, Ne.symm hj]
    by_cases hj : j = i
    · subst hj
      have hrest : (l.countP fun k => !(listed.setIfInBounds j true).getD k true) = l.countP fun k => !listed.getD k true := by
        apply List.countP_congr
        intro k hk
        rw [hset k, if_neg (show ¬ k = j from fun e => hn.1 (by rw [← e]; exact hk))]
      rw [List.countP_cons, List.countP_cons, hrest, hset j, if_pos rfl, h]
      simp
    · rw [List.countP_cons, List.countP_cons, hset j, if_neg hj]
      rcases List.mem_cons.mp hm with rfl | hm
      · exact absurd rfl hj
      · have ih := countP_set listed i hi h l hn.2 hm
        omega
theorem toCome_set {n : Nat} {listed : Array Bool} {i : Nat} (hs : listed.size = n) (hi : i < n) (h : listed.getD i true = false) : toCome n (listed.setIfInBounds i true) + 1 = toCome n listed :=
  countP_set listed i (by omega) h _ List.nodup_range (List.mem_range.2 hi)
/-- an operation waits for none that stands behind it -/
def backB (md : Region.Mode) (ops : Array Oper) : Bool := (List.range ops.size).all fun i => ((ops[i]?).map fun o => o.after.all fun e => !Region.binds md e || decide (e.on < i)).getD true
theorem all_listed (hb : backB md ops = true) {listed : Array Bool} (hs : listed.size = ops.size) (h : Region.ready md ops listed = []) : ∀ n i, i ≤ n → i < ops.size → listed.getD i true = true := by
  intro n
  induction n with
  | zero =>
    intro i hi hlt
    obtain rfl : i = 0 := by omega
    cases hl : listed.getD 0 true with
    | true => rfl
    | false =>
      exfalso
      have hm : 0 ∈ Region.ready md ops listed := by
        unfold Region.ready
        rw [List.mem_filter]
        refine ⟨List.mem_range.2 hlt, ?_⟩
        unfold backB at hb
        rw [List.all_eq_true] at hb
        have h0 := hb 0 (List.mem_range.2 hlt)
        rw [hl, Array.getElem?_eq_getElem hlt] at *
        simp only [Option.map_some, Option.getD_some, Bool.not_false, Bool.true_and, Array.all_eq_true_iff_forall_mem, Bool.or_eq_true, Bool.not_eq_true', decide_eq_true_eq] at h0 ⊢
        intro e he
        rcases h0 e he with h1 | h1
        · exact .inl h1
        · omega
      rw [h] at hm; cases hm
  | succ n ih =>
    intro i hi hlt
    by_cases hin : i ≤ n
    · exact ih i hin hlt
    obtain rfl : i = n + 1 := by omega
    cases hl : listed.getD (n + 1) true with
    | true => rfl
    | false =>
      exfalso
      have hm : (n + 1) ∈ Region.ready md ops listed := by
        unfold Region.ready
        rw [List.mem_filter]
        refine ⟨List.mem_range.2 hlt, ?_⟩
        unfold backB at hb
        rw [List.all_eq_true] at hb
        have h0 := hb (n + 1) (List.mem_range.2 hlt)
        rw [hl, Array.getElem?_eq_getElem hlt] at *
        simp only [Option.map_some, Option.getD_some, Bool.not_false, Bool.true_and, Array.all_eq_true_iff_forall_mem, Bool.or_eq_true, Bool.not_eq_true', decide_eq_true_eq] at h0 ⊢
        intro e he
        rcases h0 e he with h1 | h1
        · exact .inl h1
        · right
          have h2 := ih e.on (by omega) (by omega)
          rw [Array.getD_eq_getD_getElem?, Array.getElem?_eq_getElem (by omega)] at h2 ⊢
          exact h2
      rw [h] at hm; cases hm
/-- THE LAW: an invariant that each operation carries on, whenever it may come -/
theorem wpAnyH_inv (Inv : Array Bool → Act → World → Prop) (hb : backB md ops = true)
    (hstep : ∀ listed a w i o, listed.size = ops.size → Inv listed a w → ops[i]? = some o → listed.getD i true = false → (∀ e ∈ o.after, Region.binds md e = true → listed.getD e.on false = true) →
      wpOp P ops Q i (fun a' w' => Inv (listed.setIfInBounds i true) a' w') a w)
    (hend : ∀ listed a w, (∀ i, i < ops.size → listed.getD i true = true) → listed.size = ops.size → Inv listed a w → Q .normal a w) :
    ∀ (fuel : Nat) (listed : Array Bool) (a : Act) (w : World), listed.size = ops.size → toCome ops.size listed ≤ fuel → Inv listed a w → wpAnyH P md ops Q (fun _ => True) fuel listed a w
  | 0, listed, a, w, hs, hf, hi => by
    have hall : ∀ i, i < ops.size → listed.getD i true = true := fun i hlt => by
      cases hl : listed.getD i true with
      | true => rfl
      | false => have := toCome_set hs hlt hl; omega
    refine ⟨?_, hend listed a w hall hs hi⟩
    unfold Region.ready
    rw [List.filter_eq_nil_iff]
    intro i hm
    rw [hall i (List.mem_range.1 hm)]
    simp
  | fuel + 1, listed, a, w, hs, hf, hi => by
    refine ⟨fun h => hend listed a w (fun i hlt => all_listed hb hs h i i (Nat.le_refl _) hlt) hs hi, fun i hm => ?_⟩
    unfold Region.ready at hm
    rw [List.mem_filter, List.mem_range] at hm
    obtain ⟨hlt, hm⟩ := hm
    rw [Array.getElem?_eq_getElem hlt] at hm
    simp only [Option.map_some, Option.getD_some, Bool.and_eq_true, Bool.not_eq_true', Array.all_eq_true_iff_forall_mem, Bool.or_eq_true] at hm
    refine wpOp_mono (fun a' w' h => ⟨trivial, wpAnyH_inv Inv hb hstep hend fuel _ a' w' (by simpa using hs) ?_ h⟩) (hstep listed a w i ops[i] hs hi (Array.getElem?_eq_getElem hlt) hm.1 (fun e he hbd => ?_))
    · have := toCome_set hs hlt hm.1; omega
    · rcases hm.2 e he with h | h
      · rw [hbd] at h; cases h
      · exact h
theorem wp_region_inv {id : Nat} {a : Act} {w : World} (Inv : Array Bool → Act → World → Prop) (hm : P.follows .mixedOrders = true) (hb : backB .any ops = true)
    (hstep : ∀ listed a w i o, listed.size = ops.size → Inv listed a w → ops[i]? = some o → listed.getD i true = false → (∀ e ∈ o.after, Region.binds .any e = true → listed.getD e.on false = true) →
      wpOp P ops Q i (fun a' w' => Inv (listed.setIfInBounds i true) a' w') a w)
    (hend : ∀ listed a w, (∀ i, i < ops.size → listed.getD i true = true) → listed.size = ops.size → Inv listed a w → Q .normal a w)
    (h0 : Inv (Array.replicate ops.size false) a w.drew) : (Code.region id ops true).wp P Q a w :=
  wp_region_held (S := fun _ => True) hm (wpAnyH_inv Inv hb hstep hend _ _ _ _ (by simp) (by unfold toCome; exact Nat.le_trans List.countP_le_length (by simp)) h0)
/-! each operation hands its value to a slot of its own: what is known of the slot -/
def SlotInv (ops : Array Oper) (Val : Nat → Value → World → Prop) (a0 : Act) (W0 : World) (listed : Array Bool) (a : Act) (w : World) : Prop :=
  Below W0.heap.size W0 w ∧ a.defers = a0.defers ∧ a.tmps.size = a0.tmps.size ∧ (∀ k, (∀ o ∈ ops, o.dst ≠ some k) → a.tmps[k]? = a0.tmps[k]?) ∧
    ∀ i o d, ops[i]? = some o → o.dst = some d → listed.getD i true = true → ∃ v, a.tmps[d]? = some v ∧ Val i v w
/-- each hands it to one slot, no two to the same, none is guarded -/
def slotsB (ops : Array Oper) (n : Nat) : Bool := (List.range ops.size).all fun i => ((ops[i]?).map fun o => o.guard.isNone && (match o.dst with
  | some d => decide (d < n) && (List.range ops.size).all fun j => i == j || ((ops[j]?).map fun o' => decide (o'.dst ≠ some d)).getD true
  | none => false)).getD true
theorem slots_get {n : Nat} (h : slotsB ops n = true) {i : Nat} {o : Oper} (hi : ops[i]? = some o) : o.guard = none ∧ ∃ d, o.dst = some d ∧ d < n ∧ ∀ j o', ops[j]? = some o' → j ≠ i → o'.dst ≠ some d := by
  have hlt := (Array.getElem?_eq_some_iff.1 hi).1
  unfold slotsB at h
  rw [List.all_eq_true] at h
  have h1 := h i (List.mem_range.2 hlt)
  rw [hi] at h1
  simp only [Option.map_some, Option.getD_some, Bool.and_eq_true, Option.isNone_iff_eq_none] at h1
  obtain ⟨hg, h2⟩ := h1
  refine ⟨hg, ?_⟩
  cases hd : o.dst with
  | none => rw [hd] at h2; cases h2
  | some d =>
    rw [hd] at h2
    simp only [Bool.and_eq_true, decide_eq_true_eq, List.all_eq_true] at h2
    refine ⟨d, rfl, h2.1, fun j o' hj hne => ?_⟩
    have h3 := h2.2 j (List.mem_range.2 (Array.getElem?_eq_some_iff.1 hj).1)
    rw [hj] at h3
    simp only [Option.map_some, Option.getD_some, Bool.or_eq_true, beq_iff_eq, decide_eq_true_eq] at h3
    rcases h3 with h3 | h3
    · exact absurd h3.symm hne
    · exact h3
def noDstB (ops : Array Oper) (k : Nat) : Bool := ops.all fun o => decide (o.dst ≠ some k)
theorem wp_region_slots {id : Nat} {a : Act} {w W0 : World} (Val : Nat → Value → World → Prop) (hm : P.follows .mixedOrders = true) (hb : backB .any ops = true) (hs : slotsB ops a.tmps.size = true) (hw : Below W0.heap.size W0 w)
    (hstable : ∀ i v w w', Val i v w → Below w.heap.size w w' → Val i v w')
    (hop : ∀ i o, ops[i]? = some o → ∀ (a' : Act) (w' : World), Below W0.heap.size W0 w' → (∀ k, noDstB ops k = true → a'.tmps[k]? = a.tmps[k]?) →
      (∀ j o' d, ops[j]? = some o' → o'.dst = some d → (∃ e ∈ o.after, Region.binds .any e = true ∧ e.on = j) → ∃ v, a'.tmps[d]? = some v ∧ Val j v w') →
      ∀ K : Act → World → Prop, (∀ v w2, Below w'.heap.size w' w2 → Val i v w2 → K (a'.put o.dst v) w2) → o.wp P a' w' K Q)
    (hend : ∀ a' w', Below W0.heap.size W0 w' → a'.defers = a.defers → a'.tmps.size = a.tmps.size → (∀ k, noDstB ops k = true → a'.tmps[k]? = a.tmps[k]?) →
      (∀ i o d, ops[i]? = some o → o.dst = some d → ∃ v, a'.tmps[d]? = some v ∧ Val i v w') → Q .normal a' w') : (Code.region id ops true).wp P Q a w := by
  have hnd : ∀ {k : Nat}, noDstB ops k = true → ∀ o ∈ ops, o.dst ≠ some k := fun h o ho => by
    unfold noDstB at h
    rw [Array.all_eq_true_iff_forall_mem] at h
    simpa using h o ho
  refine wp_region_inv (SlotInv ops Val a W0) hm hb ?_ ?_ ?_
  · rintro listed a' w' i o hsz ⟨h1, h2, h3, h4, h5⟩ hi hl hdeps
    obtain ⟨hg, d, hd, hdn, hne⟩ := slots_get hs hi
    unfold wpOp
    rw [hi]
    have hwant : Region.wanted o (yielded ops a'.tmps) = true := by unfold Region.wanted; rw [hg]
    simp only [hwant, if_true]
    refine .inl (hop i o hi a' w' h1 (fun k hk => h4 k (hnd hk)) (fun j o' d' hj hd' ⟨e, he, hbd, hej⟩ => h5 j o' d' hj hd' ?_) _ fun v w2 hb2 hv => ?_)
    · rw [← hej]
      have h6 := hdeps e he hbd
      have hjlt : e.on < listed.size := by rw [hej, hsz]; exact (Array.getElem?_eq_some_iff.1 hj).1
      rw [Array.getD_eq_getD_getElem?, Array.getElem?_eq_getElem hjlt] at h6 ⊢
      exact h6
    · have hput : (a'.put o.dst v).tmps = a'.tmps.setIfInBounds d v := by rw [hd]; rfl
      have hdef : (a'.put o.dst v).defers = a'.defers := by rw [hd]; rfl
      refine ⟨h1.trans (hb2.mono h1.size), by rw [hdef]; exact h2, by rw [hput, Array.size_setIfInBounds]; exact h3, fun k hk => ?_, fun j o' d' hj hd' hlj => ?_⟩
      · rw [hput, Array.getElem?_setIfInBounds, if_neg (fun e => hk o (Array.mem_of_getElem? hi) (by rw [hd, e]))]
        exact h4 k hk
      · by_cases hji : j = i
        · subst hji
          obtain rfl : o' = o := Option.some.inj (hj.symm.trans hi)
          obtain rfl : d' = d := Option.some.inj (hd'.symm.trans hd)
          exact ⟨v, by rw [hput, Array.getElem?_setIfInBounds, if_pos rfl, if_pos (by rw [h3]; first | exact hdn | (have h9 := hd; rw [hd'] at h9; cases h9; exact hdn))], hv⟩
        · have hlj' : listed.getD j true = true := by
            have e : (listed.setIfInBounds i true).getD j true = listed.getD j true := by
              rw [Array.getD_eq_getD_getElem?, Array.getD_eq_getD_getElem?, Array.getElem?_setIfInBounds, if_neg (Ne.symm hji)]
            rw [← e]; exact hlj
          obtain ⟨u, hu, hV⟩ := h5 j o' d' hj hd' hlj'
          refine ⟨u, ?_, hstable j u w' w2 hV hb2⟩
          rw [hput, Array.getElem?_setIfInBounds, if_neg (fun e => hne j o' hj hji (by rw [hd', e]))]
          exact hu
  · rintro listed a' w' hall hsz ⟨h1, h2, h3, h4, h5⟩
    exact hend a' w' h1 h2 h3 (fun k hk => h4 k (hnd hk)) fun i o d hi hd => h5 i o d hi hd (hall i (Array.getElem?_eq_some_iff.1 hi).1)
  · refine ⟨hw.drew, rfl, rfl, fun _ _ => rfl, fun i o d hi hd hl => ?_⟩
    have hlt := (Array.getElem?_eq_some_iff.1 hi).1
    rw [Array.getD_eq_getD_getElem?, Array.getElem?_eq_getElem (by simpa using hlt)] at hl
    simp at hl
/-- the frame behind such a region, written out -/
theorem act_eq {a a' : Act} (hdef : a'.defers = a.defers) (hsz : a'.tmps.size = a.tmps.size) (hk : ∀ k, noDstB ops k = true → a'.tmps[k]? = a.tmps[k]?) :
    a' = { tmps := ((List.range a.tmps.size).map fun k => if noDstB ops k = true then a.tmps.getD k undef else a'.tmps.getD k undef).toArray, defers := a.defers } := by
  have ht : a'.tmps = ((List.range a.tmps.size).map fun k => if noDstB ops k = true then a.tmps.getD k undef else a'.tmps.getD k undef).toArray := by
    apply Array.ext (by simp [hsz])
    intro k h1 h2
    simp only [List.getElem_toArray, List.getElem_map, List.getElem_range]
    split
    · rename_i h
      have h3 := hk k h
      rw [Array.getElem?_eq_getElem h1] at h3
      simp [← h3]
    · simp
  have hm : ∀ (x : Act) (t : Array Value) (d : List Deferred), x.tmps = t → x.defers = d → x = { tmps := t, defers := d } := fun x t d h1 h2 => by
    cases x; cases h1; cases h2; rfl
  exact hm _ _ _ ht hdef
end
end Go.Proofs.Ytaanhijjhllckaa
