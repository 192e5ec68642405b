/- A region that draws its order, in a round of a range over a function: by the plans of regions elsewhere. -/
import Derived.Test.YtonhmjfopidacaaDoorFree
import Derived.Test.YtonhmjfopidacaaDoorTreeOps
import Derived.Test.YtonhmjfopidacaaDoorLater
namespace Go.Proofs.YtonhmjfopidacaaDoor
set_option maxRecDepth 100000
open Go.RowKit
section
variable {P : Program} {ops : Array Oper}
theorem ops_round {l : Nat} {n : Nat} {K : Act → World → Prop} (hs : ∀ o ∈ ops.toList, ∀ c, o.op ≠ .defer c) : ∀ (L : List Nat) (a : Act) (w : World), wpOps P ops (fun e a w => e = .normal ∧ K a w) L a w →
    wpOpsIn (Fence.wide.inRound l) n P ops (fun e a w => e = .normal ∧ K a w) L a w
  | [], a, w, h => h
  | i :: rest, a, w, h => by
    unfold wpOps at h
    unfold wpOpsIn
    cases hi : ops[i]? with
    | none =>
      rw [hi] at h
      exact ops_round hs rest a w h
    | some o =>
      rw [hi] at h
      simp only at h ⊢
      split
      · rename_i hw
        rw [if_pos hw] at h
        have hno : ¬ LetsOut (fun (e : Exit) (a : Act) (w : World) => e = .normal ∧ K a w) := by
          rintro ⟨_, _, h1, _⟩
          cases h1
        have hwp : o.wp P a w (wpOps P ops (fun e a w => e = .normal ∧ K a w) rest) (fun e a w => e = .normal ∧ K a w) := h.elim id fun h2 => absurd h2.2 hno
        have hdef := hs o (by
          rw [Array.getElem?_eq_some_iff] at hi
          obtain ⟨hlt, he⟩ := hi
          rw [← he]
          exact Array.getElem_mem_toList hlt)
        unfold Oper.wpIn
        rw [Oper.semAt_eq _ _ _ hdef]
        refine ⟨fun _ _ => trivial, ?_⟩
        unfold Oper.wp at hwp
        have hdd : ∀ k : Nat, (Fence.wide.depth.isSome = true → 1 ≤ k) := fun k h => by cases h
        cases hr : (execOp a.eval o).run P w with
        | ok r w' =>
          rw [hr] at hwp
          cases r with
          | value v => exact ops_round hs rest _ _ hwp
          | skip => exact ops_round hs rest _ _ hwp
          | defer d => exact ops_round hs rest _ _ hwp
          | enter f args =>
            refine ⟨hdd _, CallsIn.inRound l (callsIn_wide.2 (Calls.mono hwp fun e w2 h2 => ?_))⟩
            cases e with
            | returned v => exact ops_round hs rest _ _ h2
            | panicked c => exact h2
            | outgrown => exact h2
          | row s args =>
            exact ⟨hdd _, fun c cs _ => let ⟨v, w2, h2, hst⟩ := hwp c cs; ⟨v, w2, ops_round hs rest _ _ h2, stepsIn_wide.2 hst⟩⟩
          | _ => exact hwp.elim
        | halt s w' =>
          rw [hr] at hwp
          cases s <;> first | exact hwp | exact hwp.elim
      · rename_i hw
        rw [if_neg hw] at h
        exact ⟨fun _ _ => trivial, ops_round hs rest _ _ h⟩
def noDefer (lo : List Oper) : Bool := lo.all fun o => match o.op with
  | .defer _ => false
  | _ => true
theorem noDefer_of {lo : List Oper} (h : noDefer lo = true) : ∀ o ∈ lo.toArray.toList, ∀ c, o.op ≠ .defer c := fun o ho c hc => by
  have h1 := List.all_eq_true.1 h o (by simpa using ho)
  rw [hc] at h1
  cases h1
theorem wpIn_round_free {l n id : Nat} {a : Act} {w : World} {lo : List Oper} {K : Act → World → Prop} (plan : Plan) (hm : P.follows .mixedOrders = true) (hB : eagerB .any lo.toArray plan = true) (hs : noDefer lo = true)
    (h : wpFree P lo.toArray (fun e a w => e = .normal ∧ K a w) plan a w.drew) : (Code.region id lo.toArray true).wpIn (Fence.wide.inRound l) n P (fun e a w => e = .normal ∧ K a w) a w := by
  simp only [eagerB, Bool.and_eq_true] at hB
  refine wpIn_region_draw fun t => ?_
  simp only [Region.schedule, hm, Bool.true_or, if_true]
  exact ops_round (noDefer_of hs) _ _ _ (wpAny_sound _ t _ a _ (wpAny_of_held _ _ _ _ (free_any hB.1 (fun c a d v w h => by cases h.1) plan _ _ hB.2 a _ h)))
theorem wpIn_round_eager {l n id : Nat} {a : Act} {w W0 : World} {lo : List Oper} {K : Act → World → Prop} (plan : Plan) (hw : Below W0.heap.size W0 w) (hm : P.follows .mixedOrders = true) (hB : eagerB .any lo.toArray plan = true) (hs : noDefer lo = true)
    (h : wpEager P lo.toArray (fun e a w => e = .normal ∧ K a w) plan W0 a w.drew) : (Code.region id lo.toArray true).wpIn (Fence.wide.inRound l) n P (fun e a w => e = .normal ∧ K a w) a w := by
  simp only [eagerB, Bool.and_eq_true] at hB
  refine wpIn_region_draw fun t => ?_
  simp only [Region.schedule, hm, Bool.true_or, if_true]
  exact ops_round (noDefer_of hs) _ _ _ (wpAny_sound _ t _ a _ (wpAny_of_held _ _ _ _ (eager_any hB.1 (fun c a d v w h => by cases h.1) plan _ _ hB.2 W0 a _ hw.drew h)))
/-- the same, cut: all orders end in one state A0, and what is known of the world -/
theorem wpIn_cut_free {l n id : Nat} {a : Act} {w : World} {lo : List Oper} {Q : Exit → Act → World → Prop} (plan : Plan) (hm : P.follows .mixedOrders = true) (hB : eagerB .any lo.toArray plan = true) (hs : noDefer lo = true) (A0 : Act) (Fact : World → Prop)
    (h : wpFree P lo.toArray (fun e a w => e = .normal ∧ (a = A0 ∧ Fact w)) plan a w.drew) (hk : ∀ wx, Fact wx → Q .normal A0 wx) : (Code.region id lo.toArray true).wpIn (Fence.wide.inRound l) n P Q a w :=
  wpIn_mono (wpIn_round_free plan hm hB hs h) fun e a w hx => by
    obtain ⟨h1, h2, h3⟩ := hx
    subst h1 h2
    exact hk w h3
theorem wpIn_cut_eager {l n id : Nat} {a : Act} {w W0 : World} {lo : List Oper} {Q : Exit → Act → World → Prop} (plan : Plan) (hw : Below W0.heap.size W0 w) (hm : P.follows .mixedOrders = true) (hB : eagerB .any lo.toArray plan = true) (hs : noDefer lo = true) (A0 : Nat → Act) (Fact : World → Prop)
    (h : wpEager P lo.toArray (fun e a w => e = .normal ∧ ∃ g : Nat, a = A0 g ∧ Fact w) plan W0 a w.drew) (hk : ∀ (g : Nat) wx, Fact wx → Q .normal (A0 g) wx) : (Code.region id lo.toArray true).wpIn (Fence.wide.inRound l) n P Q a w :=
  wpIn_mono (wpIn_round_eager plan hw hm hB hs h) fun e a w hx => by
    obtain ⟨h1, g, h2, h3⟩ := hx
    subst h1 h2
    exact hk g w h3
end
end Go.Proofs.YtonhmjfopidacaaDoor
