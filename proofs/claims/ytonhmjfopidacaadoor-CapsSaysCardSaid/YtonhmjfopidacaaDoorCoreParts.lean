/- core.parts: the nodes of a node as a sequence; core.Size, walked. -/
import Derived.Test.YtonhmjfopidacaaDoorCoreVisit
import Derived.Test.YtonhmjfopidacaaDoorTreeOps
namespace Go.Proofs.YtonhmjfopidacaaDoor
namespace K
set_option maxRecDepth 100000
open Go.RowKit Go.Shelf

attribute [local go_sem] Oper.semAt_some

theorem nodes_held {W0 w0 : World} {x : Cr} {cs : List Value} (hat : Cr.at W0 x cs) (hb0 : Below W0.heap.size W0 w0) {Bx : Nat} (hBx : Bx < w0.heap.size) (h9 : Core7 w0 Bx 0 cs) :
    SeqHeld Tryd.prog 68 #[.pointer (some ⟨Bx, 0, none⟩)] (fun p : NV W0 => .agg p.1.2.toArray) W0.heap.size w0 (fun q => nds q = x.pre.take 100000) (fun q => nds q <+: x.pre.take 100000) 100000 := by
  intro l J Jx W hW hW2 hJ hJx hJb hJxb hY h0 m
  have hv := visit_in l W0 100000 W.heap.size J Jx hJ hJx (fun pre W' h => hb0.trans (hJb pre W' h)) (fun pre W' h => hb0.trans (hJxb pre W' h)) hY x.count x (Nat.le_refl _) 1 cs [] W 100000 hat h0 (by decide) (Nat.le_refl _) (by simp)
  have hv := callsIn_wide.1 hv
  have h9' : Core7 W Bx 0 cs := ⟨h9.1, fun q hq => by rw [hW2.cell (p := ⟨Bx, 0 + q, none⟩) hBx]; exact h9.2 q hq⟩
  refine callsIn_of_wp Tryd.func68 rfl trivial ?_ rfl
  simp only [Tryd.ntmps68, List.size_toArray, List.length_cons, List.length_nil, Nat.reduceAdd, Nat.reduceSub, Array.replicate_succ, Array.replicate_zero, List.push_toArray, List.append_toArray, List.nil_append, List.cons_append]
  refine wpIn_wide.2 ?_
  go_wp2_with (first | (refine wpList_load_core rfl _ rfl Bx 0 cs rfl h9' ?_) | (go_at_call 69; refine hv.mono ?_; clear hv; rintro e w3 (⟨q, hq, rfl, hj⟩ | ⟨rfl, q, hq, hj⟩)) | fail)
  · go_end0
    exact ⟨⟨_, rfl⟩, .inl ⟨q, hq, hj⟩⟩
  · go_end0
    exact ⟨⟨_, rfl⟩, .inr ⟨q, hq, hj⟩⟩
/-- core.parts: the node lies in a block of its own -/
theorem nodes_walk {x : Cr} {cs : List Value} {w : World} (hat : Cr.at w x cs) (w' : World) :
    Calls Tryd.prog 50 #[.agg cs.toArray] w' fun e w'' => e = .returned (.func (.func 68) #[] #[.pointer (some ⟨w'.heap.size, 0, none⟩)]) ∧ w'' = w'.alloc (.cells cs.toArray 28) := by
  cases x with
  | mk k s n l =>
    rw [at_mk] at hat
    obtain ⟨_, _, a, cap, rfl, _, _⟩ := hat
    go_enter Tryd.func50, Tryd.ntmps50
    go_wp2_with fail
    go_ret
    exact ⟨rfl, rfl⟩
end K
end Go.Proofs.YtonhmjfopidacaaDoor
