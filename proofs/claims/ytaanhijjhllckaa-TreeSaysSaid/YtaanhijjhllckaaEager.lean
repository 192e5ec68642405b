/- Regions that draw their order, in general: the plain operations are taken first, each by one value that holds in every later world; the calls, which wait for one another, are carried out in the world at hand. One walk by a plan serves every order. -/
import Derived.Test.YtaanhijjhllckaaLater
import Derived.Deep.RegionHeld
namespace Go.Proofs.Ytaanhijjhllckaa
set_option maxRecDepth 100000
open Go.RowKit

section
variable {P : Program} {ops : Array Oper} {Q : Exit → Act → World → Prop} {md : Region.Mode} {S : World → Prop}

/-- an operation that hands back a value and calls no Go function -/
def plainOp : Op → Bool
  | .move _ | .assign _ | .pick .. | .build .. | .load .. | .binOp .. | .unOp .. | .convert .. | .fieldAddr .. | .field .. | .indexAddr .. | .index .. | .extract .. | .slice .. | .makeInterface .. => true
  | .call c => match c.callee with | .builtin .len | .builtin .min | .builtin .max => true | _ => false
  | _ => false
theorem run_value (s : Sem Value) (w : World) (r : Next) (w' : World) (h : (do pure (Next.value (← s)) : Sem Next).run P w = .ok r w') : ∃ v, r = .value v := by
  simp only [Sem.run_bind, Sem.run_pure] at h
  cases hs : s.run P w with
  | ok v w1 => rw [hs] at h; simp only [Result.andThen] at h; cases h; exact ⟨v, rfl⟩
  | halt x w1 => rw [hs] at h; simp only [Result.andThen] at h; cases h
theorem plain_value {ρ : Operand → Value} {o : Oper} (hp : plainOp o.op = true) {w w' : World} {r : Next} (h : (execOp ρ o).run P w = .ok r w') : ∃ v, r = .value v := by
  unfold execOp at h
  cases ho : o.op <;> rw [ho] at hp h <;> simp only [plainOp] at hp
  case call c =>
    obtain ⟨callee, args, types⟩ := c
    cases callee <;> try (cases hp; done)
    rename_i b
    cases b <;> try (cases hp; done)
    all_goals
      simp only [resolve, Sem.run_bind, Sem.run_pure, Result.andThen, invoke, builtin] at h
      split at h
      · cases h; exact ⟨_, rfl⟩
      · cases h
  case pick c x y =>
    simp only [Sem.run_bind, Sem.run_pure, Result.andThen] at h
    split at h
    · cases h; exact ⟨_, rfl⟩
    · cases h
  all_goals first
    | (cases hp; done)
    | exact run_value _ _ _ _ h
    | (simp only [Sem.run_pure] at h; cases h; exact ⟨_, rfl⟩)

theorem yieldsIf_of_quiet {o : Oper} {a : Act} {v : Value} (hp : plainOp o.op = true) (hw : Region.wanted o (yielded ops a.tmps) = true) (h : ∀ w, S w → o.quietAt P a S w v) : YieldsIf P ops S o v a := by
  refine .inl ⟨hw, fun w hS => ?_⟩
  have h1 := h w hS
  unfold Oper.quietAt at h1
  cases hr : (execOp a.eval o).run P w with
  | ok n w' =>
    obtain ⟨u, rfl⟩ := plain_value hp hr
    rw [hr] at h1
    simp only [Oper.quietUpon] at h1
    obtain ⟨rfl, rfl⟩ := h1
    rfl
  | halt x w' => rw [hr] at h1; simp only [Oper.quietUpon] at h1

theorem wpAnyH_weaken {S' : World → Prop} (hS : ∀ w, S' w → S w) : ∀ (fuel : Nat) (listed : Array Bool) (a : Act) (w : World), wpAnyH P md ops Q S' fuel listed a w → wpAnyH P md ops Q S fuel listed a w
  | 0, _, _, _, h => h
  | fuel + 1, _, _, _, h => ⟨h.1, fun i hi => wpOp_mono (fun a' w' h' => ⟨hS _ h'.1, wpAnyH_weaken hS fuel _ a' w' h'.2⟩) (h.2 i hi)⟩

/-- THE ORDER OF THE WALK: operation i is plain, and is taken first; operation i alone may come up; one of two operations may come up. -/
inductive Plan where
  | done : Plan
  | plain : Nat → Plan → Plan
  | sole : Nat → Plan → Plan
  | fork : Nat → Plan → Nat → Plan → Plan
  | fork3 : Nat → Plan → Nat → Plan → Nat → Plan → Plan
def Plan.fits (md : Region.Mode) (ops : Array Oper) : Plan → Nat → Array Bool → Bool
  | .done, n, listed => n == 0 && (Region.ready md ops listed).isEmpty
  | .plain i r, n + 1, listed => (Region.ready md ops listed).contains i && Region.free md ops listed i && (match ops[i]? with | some o => plainOp o.op | none => false) && r.fits md ops n (listed.setIfInBounds i true)
  | .sole i r, n + 1, listed => (Region.ready md ops listed == [i]) && r.fits md ops n (listed.setIfInBounds i true)
  | .fork i r j s, n + 1, listed => (Region.ready md ops listed == [i, j]) && r.fits md ops n (listed.setIfInBounds i true) && s.fits md ops n (listed.setIfInBounds j true)
  | .fork3 i r j s k t, n + 1, listed => (Region.ready md ops listed == [i, j, k]) && r.fits md ops n (listed.setIfInBounds i true) && s.fits md ops n (listed.setIfInBounds j true) && t.fits md ops n (listed.setIfInBounds k true)
  | _, 0, _ => false
def eagerB (md : Region.Mode) (ops : Array Oper) (l : Plan) : Bool := Region.noSelect ops && l.fits md ops ops.size (Array.replicate ops.size false)

/-- the class of worlds that come later than w0 -/
def LaterOf (w0 w : World) : Prop := ∃ L : Later w0, w = L.val

/-- an operation that is no plain one: carried out in the world at hand; old memory is left alone -/
def stepOp (P : Program) (ops : Array Oper) (Q : Exit → Act → World → Prop) (i : Nat) (W0 : World) (K : Act → World → Prop) (a : Act) (w : World) : Prop :=
  ∃ o, ops[i]? = some o ∧ if Region.wanted o (yielded ops a.tmps) then o.wp P a w (fun a' w' => (Below w.heap.size w w' ∨ Below W0.heap.size w w') ∧ K a' w') Q else K (a.put o.dst undef) w
/-- THE WALK: a plain operation: one value, in every later world; any other: carried out in the world at hand. W0: the world whose memory is held; behind an operation that is not plain it may be taken anew. -/
def wpEager (P : Program) (ops : Array Oper) (Q : Exit → Act → World → Prop) : Plan → World → Act → World → Prop
  | .done, _, a, w => Q .normal a w
  | .plain i r, W0, a, w => ∃ o, ops[i]? = some o ∧ if Region.wanted o (yielded ops a.tmps) then o.quiet P a (fun w' => ∃ L : Later W0, w' = L.val) (fun a' => wpEager P ops Q r W0 a' w) else wpEager P ops Q r W0 (a.put o.dst undef) w
  | .sole i r, W0, a, w => stepOp P ops Q i W0 (fun a' w' => wpEager P ops Q r W0 a' w' ∨ wpEager P ops Q r w' a' w') a w
  | .fork i r j s, W0, a, w => stepOp P ops Q i W0 (fun a' w' => wpEager P ops Q r W0 a' w' ∨ wpEager P ops Q r w' a' w') a w ∧ stepOp P ops Q j W0 (fun a' w' => wpEager P ops Q s W0 a' w' ∨ wpEager P ops Q s w' a' w') a w
  | .fork3 i r j s k t, W0, a, w => stepOp P ops Q i W0 (fun a' w' => wpEager P ops Q r W0 a' w' ∨ wpEager P ops Q r w' a' w') a w ∧ stepOp P ops Q j W0 (fun a' w' => wpEager P ops Q s W0 a' w' ∨ wpEager P ops Q s w' a' w') a w ∧ stepOp P ops Q k W0 (fun a' w' => wpEager P ops Q t W0 a' w' ∨ wpEager P ops Q t w' a' w') a w

theorem later_weaken {W0 w : World} (h : Below W0.heap.size W0 w) (w' : World) (h' : LaterOf w w') : LaterOf W0 w' := by
  obtain ⟨L, rfl⟩ := h'
  exact ⟨⟨L.val, h.trans (L.ok.mono h.size)⟩, rfl⟩

theorem stepOp_wp {i n : Nat} {l : Plan} {W0 w : World} {a : Act} {listed : Array Bool} (hw : Below W0.heap.size W0 w)
    (ih : ∀ (W0 : World) (a : Act) (w : World), Below W0.heap.size W0 w → wpEager P ops Q l W0 a w → wpAnyH P md ops Q (LaterOf W0) n listed a w)
    (h : stepOp P ops Q i W0 (fun a' w' => wpEager P ops Q l W0 a' w' ∨ wpEager P ops Q l w' a' w') a w) : wpOp P ops Q i (fun a' w' => LaterOf W0 w' ∧ wpAnyH P md ops Q (LaterOf W0) n listed a' w') a w := by
  obtain ⟨o, hi, h⟩ := h
  have fin : ∀ a' w', (Below w.heap.size w w' ∨ Below W0.heap.size w w') → (wpEager P ops Q l W0 a' w' ∨ wpEager P ops Q l w' a' w') → LaterOf W0 w' ∧ wpAnyH P md ops Q (LaterOf W0) n listed a' w' := by
    intro a' w' h1 h2
    have hw' : Below W0.heap.size W0 w' := by
      rcases h1 with h1 | h1
      · exact hw.trans (h1.mono hw.size)
      · exact hw.trans h1
    refine ⟨⟨⟨w', hw'⟩, rfl⟩, ?_⟩
    rcases h2 with h2 | h2
    · exact ih W0 a' w' hw' h2
    · exact wpAnyH_weaken (later_weaken hw') _ _ _ _ (ih w' a' w' (Below.refl _ _) h2)
  unfold wpOp
  simp only [hi]
  split
  · rename_i hwant
    rw [if_pos hwant] at h
    exact .inl (Oper.wp_mono (fun a' w' ⟨h1, h2⟩ => fin a' w' h1 h2) h)
  · rename_i hwant
    rw [if_neg hwant] at h
    exact fin _ w (.inl (Below.refl _ _)) h

theorem eager_any (hsel : Region.noSelect ops = true) (hQ : ∀ c (a : Act) (d : Option Nat) (v : Value) w, Q (.panic c) (a.put d v) w → Q (.panic c) a w) :
    ∀ (l : Plan) (n : Nat) (listed : Array Bool), l.fits md ops n listed = true → ∀ (W0 : World) (a : Act) (w : World), Below W0.heap.size W0 w →
      wpEager P ops Q l W0 a w → wpAnyH P md ops Q (LaterOf W0) n listed a w
  | .done, 0, listed, hB, W0, a, w, _, h => ⟨by simpa [Plan.fits] using hB, h⟩
  | .done, n + 1, _, hB, _, _, _, _, _ => by simp [Plan.fits] at hB
  | .plain _ _, 0, _, hB, _, _, _, _, _ => by simp [Plan.fits] at hB
  | .sole _ _, 0, _, hB, _, _, _, _, _ => by simp [Plan.fits] at hB
  | .fork _ _ _ _, 0, _, hB, _, _, _, _, _ => by simp [Plan.fits] at hB
  | .fork3 _ _ _ _ _ _, 0, _, hB, _, _, _, _, _ => by simp [Plan.fits] at hB
  | .plain i l, n + 1, listed, hB, W0, a, w, hw, h => by
    unfold wpEager at h
    obtain ⟨o, hi, h⟩ := h
    simp only [Plan.fits, Bool.and_eq_true, hi] at hB
    obtain ⟨⟨⟨hr, hf⟩, hp⟩, hB'⟩ := hB
    split at h
    · rename_i hwant
      obtain ⟨v, hv, hk⟩ := h
      exact wpAnyH_take hi hsel hf hr (fun c a w => hQ c a _ _ w) (yieldsIf_of_quiet hp hwant hv) ⟨⟨w, hw⟩, rfl⟩ (eager_any hsel hQ l n _ hB' W0 _ w hw hk)
    · rename_i hwant
      exact wpAnyH_take hi hsel hf hr (fun c a w => hQ c a _ _ w) (.inr ⟨by simpa using hwant, rfl⟩) ⟨⟨w, hw⟩, rfl⟩ (eager_any hsel hQ l n _ hB' W0 _ w hw h)
  | .sole i l, n + 1, listed, hB, W0, a, w, hw, h => by
    simp only [Plan.fits, Bool.and_eq_true, beq_iff_eq] at hB
    obtain ⟨hr, hB'⟩ := hB
    refine ⟨fun h0 => (by rw [hr] at h0; cases h0), fun j hj => ?_⟩
    rw [hr] at hj
    obtain rfl : j = i := by simpa using hj
    exact stepOp_wp hw (eager_any hsel hQ l n _ hB') h
  | .fork i l j s, n + 1, listed, hB, W0, a, w, hw, h => by
    simp only [Plan.fits, Bool.and_eq_true, beq_iff_eq] at hB
    obtain ⟨⟨hr, hB1⟩, hB2⟩ := hB
    refine ⟨fun h0 => (by rw [hr] at h0; cases h0), fun k hk => ?_⟩
    rw [hr] at hk
    have hk' : k = i ∨ k = j := by simpa using hk
    rcases hk' with rfl | rfl
    · exact stepOp_wp hw (eager_any hsel hQ l n _ hB1) h.1
    · exact stepOp_wp hw (eager_any hsel hQ s n _ hB2) h.2
  | .fork3 i l j s k t, n + 1, listed, hB, W0, a, w, hw, h => by
    simp only [Plan.fits, Bool.and_eq_true, beq_iff_eq] at hB
    obtain ⟨⟨⟨hr, hB1⟩, hB2⟩, hB3⟩ := hB
    refine ⟨fun h0 => (by rw [hr] at h0; cases h0), fun q hq => ?_⟩
    rw [hr] at hq
    have hq' : q = i ∨ q = j ∨ q = k := by simpa using hq
    rcases hq' with rfl | rfl | rfl
    · exact stepOp_wp hw (eager_any hsel hQ l n _ hB1) h.1
    · exact stepOp_wp hw (eager_any hsel hQ s n _ hB2) h.2.1
    · exact stepOp_wp hw (eager_any hsel hQ t n _ hB3) h.2.2

theorem wp_region_eager {id : Nat} {a : Act} {w W0 : World} {lo : List Oper} (l : Plan) (hw : Below W0.heap.size W0 w) (hm : P.follows .mixedOrders = true) (hB : eagerB .any lo.toArray l = true)
    (hQ : ∀ c (a : Act) (d : Option Nat) (v : Value) w, Q (.panic c) (a.put d v) w → Q (.panic c) a w)
    (h : wpEager P lo.toArray Q l W0 a w.drew) : (Code.region id lo.toArray true).wp P Q a w := by
  simp only [eagerB, Bool.and_eq_true] at hB
  exact wp_region_held (S := LaterOf W0) hm (eager_any hB.1 hQ l _ _ hB.2 W0 a _ hw.drew h)

variable {W0 w : World} {a : Act} {o : Oper} {i : Nat} {r : Plan}
theorem eager_skip (ho : ops[i]? = some o) (hw : Region.wanted o (yielded ops a.tmps) = false) (h : wpEager P ops Q r W0 (a.put o.dst undef) w) : wpEager P ops Q (.plain i r) W0 a w := by
  unfold wpEager; exact ⟨o, ho, by rw [if_neg (by rw [hw]; exact Bool.false_ne_true)]; exact h⟩
theorem eager_skip_sole (ho : ops[i]? = some o) (hw : Region.wanted o (yielded ops a.tmps) = false) (h : wpEager P ops Q r W0 (a.put o.dst undef) w) : wpEager P ops Q (.sole i r) W0 a w := by
  unfold wpEager; exact ⟨o, ho, by rw [if_neg (by rw [hw]; exact Bool.false_ne_true)]; exact .inl h⟩
theorem eager_want (ho : ops[i]? = some o) (hw : Region.wanted o (yielded ops a.tmps) = true)
    (h : ∀ K : Act → Prop, (∀ a', wpEager P ops Q r W0 a' w → K a') → o.quiet P a (fun w' => ∃ L : Later W0, w' = L.val) K) : wpEager P ops Q (.plain i r) W0 a w := by
  unfold wpEager
  exact ⟨o, ho, by rw [if_pos hw]; exact h _ (fun _ h => h)⟩
theorem step_call (ho : ops[i]? = some o) (hw : Region.wanted o (yielded ops a.tmps) = true)
    (h : ∀ K : Act → World → Prop, (∀ a' w', Below w.heap.size w w' → wpEager P ops Q r W0 a' w' → K a' w') → o.wp P a w K Q) : stepOp P ops Q i W0 (fun a' w' => wpEager P ops Q r W0 a' w' ∨ wpEager P ops Q r w' a' w') a w :=
  ⟨o, ho, by rw [if_pos hw]; exact h _ (fun _ _ h1 h2 => ⟨.inl h1, .inl h2⟩)⟩
theorem step_call_new (ho : ops[i]? = some o) (hw : Region.wanted o (yielded ops a.tmps) = true)
    (h : ∀ K : Act → World → Prop, (∀ a' w', Below w.heap.size w w' → wpEager P ops Q r w' a' w' → K a' w') → o.wp P a w K Q) : stepOp P ops Q i W0 (fun a' w' => wpEager P ops Q r W0 a' w' ∨ wpEager P ops Q r w' a' w') a w :=
  ⟨o, ho, by rw [if_pos hw]; exact h _ (fun _ _ h1 h2 => ⟨.inl h1, .inr h2⟩)⟩
theorem step_write (ho : ops[i]? = some o) (hw : Region.wanted o (yielded ops a.tmps) = true)
    (h : ∀ K : Act → World → Prop, (∀ a' w', Below W0.heap.size w w' → wpEager P ops Q r W0 a' w' → K a' w') → o.wp P a w K Q) : stepOp P ops Q i W0 (fun a' w' => wpEager P ops Q r W0 a' w' ∨ wpEager P ops Q r w' a' w') a w :=
  ⟨o, ho, by rw [if_pos hw]; exact h _ (fun _ _ h1 h2 => ⟨.inr h1, .inl h2⟩)⟩
theorem eager_write (ho : ops[i]? = some o) (hw : Region.wanted o (yielded ops a.tmps) = true)
    (h : ∀ K : Act → World → Prop, (∀ a' w', Below W0.heap.size w w' → wpEager P ops Q r W0 a' w' → K a' w') → o.wp P a w K Q) : wpEager P ops Q (.sole i r) W0 a w :=
  ⟨o, ho, by rw [if_pos hw]; exact h _ (fun _ _ h1 h2 => ⟨.inr h1, .inl h2⟩)⟩
theorem eager_write_new (ho : ops[i]? = some o) (hw : Region.wanted o (yielded ops a.tmps) = true)
    (h : ∀ K : Act → World → Prop, (∀ a' w', Below W0.heap.size w w' → wpEager P ops Q r w' a' w' → K a' w') → o.wp P a w K Q) : wpEager P ops Q (.sole i r) W0 a w :=
  ⟨o, ho, by rw [if_pos hw]; exact h _ (fun _ _ h1 h2 => ⟨.inr h1, .inr h2⟩)⟩
theorem eager_call (ho : ops[i]? = some o) (hw : Region.wanted o (yielded ops a.tmps) = true)
    (h : ∀ K : Act → World → Prop, (∀ a' w', Below w.heap.size w w' → wpEager P ops Q r W0 a' w' → K a' w') → o.wp P a w K Q) : wpEager P ops Q (.sole i r) W0 a w := step_call ho hw h
theorem eager_call_new (ho : ops[i]? = some o) (hw : Region.wanted o (yielded ops a.tmps) = true)
    (h : ∀ K : Act → World → Prop, (∀ a' w', Below w.heap.size w w' → wpEager P ops Q r w' a' w' → K a' w') → o.wp P a w K Q) : wpEager P ops Q (.sole i r) W0 a w := step_call_new ho hw h
/-! the plan's fit, step by step, so that each closed fact can be a lemma of its own -/
def plainFits (md : Region.Mode) (ops : Array Oper) (i : Nat) (listed : Array Bool) : Bool :=
  (Region.ready md ops listed).contains i && Region.free md ops listed i && (match ops[i]? with | some o => plainOp o.op | none => false)
theorem fits_plain {md : Region.Mode} {n : Nat} {listed : Array Bool} (h : plainFits md ops i listed = true) (hr : r.fits md ops n (listed.setIfInBounds i true) = true) : (Plan.plain i r).fits md ops (n + 1) listed = true := by
  simp only [Plan.fits, Bool.and_eq_true]
  simp only [plainFits, Bool.and_eq_true] at h
  exact ⟨h, hr⟩
theorem fits_sole {md : Region.Mode} {n : Nat} {listed : Array Bool} (h : Region.ready md ops listed = [i]) (hr : r.fits md ops n (listed.setIfInBounds i true) = true) : (Plan.sole i r).fits md ops (n + 1) listed = true := by
  simp only [Plan.fits, Bool.and_eq_true, beq_iff_eq]
  exact ⟨h, hr⟩
theorem fits_fork {md : Region.Mode} {n j : Nat} {s : Plan} {listed : Array Bool} (h : Region.ready md ops listed = [i, j]) (hr : r.fits md ops n (listed.setIfInBounds i true) = true) (hs : s.fits md ops n (listed.setIfInBounds j true) = true) : (Plan.fork i r j s).fits md ops (n + 1) listed = true := by
  simp only [Plan.fits, Bool.and_eq_true, beq_iff_eq]
  exact ⟨⟨h, hr⟩, hs⟩
theorem fits_done {md : Region.Mode} {listed : Array Bool} (h : (Region.ready md ops listed).isEmpty = true) : Plan.done.fits md ops 0 listed = true := by
  simp only [Plan.fits, Bool.and_eq_true]
  exact ⟨rfl, h⟩
theorem eagerB_of {md : Region.Mode} {l : Plan} {n : Nat} (h1 : Region.noSelect ops = true) (hn : ops.size = n) (h2 : l.fits md ops n (List.replicate n false).toArray = true) : eagerB md ops l = true := by
  subst hn
  simp only [eagerB, Bool.and_eq_true]
  exact ⟨h1, by simpa using h2⟩
theorem eager_fork {j : Nat} {s : Plan} (h1 : stepOp P ops Q i W0 (fun a' w' => wpEager P ops Q r W0 a' w' ∨ wpEager P ops Q r w' a' w') a w) (h2 : stepOp P ops Q j W0 (fun a' w' => wpEager P ops Q s W0 a' w' ∨ wpEager P ops Q s w' a' w') a w) : wpEager P ops Q (.fork i r j s) W0 a w := by
  unfold wpEager; exact ⟨h1, h2⟩
theorem eager_fork3 {j k : Nat} {s t : Plan} (h1 : stepOp P ops Q i W0 (fun a' w' => wpEager P ops Q r W0 a' w' ∨ wpEager P ops Q r w' a' w') a w) (h2 : stepOp P ops Q j W0 (fun a' w' => wpEager P ops Q s W0 a' w' ∨ wpEager P ops Q s w' a' w') a w) (h3 : stepOp P ops Q k W0 (fun a' w' => wpEager P ops Q t W0 a' w' ∨ wpEager P ops Q t w' a' w') a w) : wpEager P ops Q (.fork3 i r j s k t) W0 a w := by
  unfold wpEager; exact ⟨h1, h2, h3⟩
theorem eager_done (h : Q .normal a w) : wpEager P ops Q .done W0 a w := h
end
end Go.Proofs.Ytaanhijjhllckaa
