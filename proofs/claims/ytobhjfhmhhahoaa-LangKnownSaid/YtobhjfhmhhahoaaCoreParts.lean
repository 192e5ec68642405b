/- core.parts: the nodes of a node as a sequence; core.Size, walked. -/
import Derived.Test.YtobhjfhmhhahoaaCoreVisit
import Derived.Test.YtobhjfhmhhahoaaTreeNodes
namespace Go.Proofs.Ytobhjfhmhhahoaa
namespace K
set_option maxRecDepth 100000
open Go.RowKit Go.Shelf

attribute [local go_sem] Oper.semAt_some

theorem nodes_held {W0 w0 : World} {x : Cr} {cs : List Value} (hat : Cr.at W0 x cs) (hb0 : Below W0.heap.size W0 w0) {Bx : Nat} (hBx : Bx < w0.heap.size) (h9 : Core7 w0 Bx 0 cs) :
    SeqHeld Try.prog 35 #[.pointer (some ⟨Bx, 0, none⟩)] (fun p : NV W0 => .agg p.1.2.toArray) W0.heap.size w0 (fun q => nds q = x.pre.take 100000) (fun q => nds q <+: x.pre.take 100000) 100000 := by
  intro l J Jx W hW hW2 hJ hJx hJb hJxb hY h0 m
  have hv := visit_in l W0 100000 W.heap.size J Jx hJ hJx (fun pre W' h => hb0.trans (hJb pre W' h)) (fun pre W' h => hb0.trans (hJxb pre W' h)) hY x.count x (Nat.le_refl _) 1 cs [] W 100000 hat h0 (by decide) (Nat.le_refl _) (by simp)
  have hv := callsIn_wide.1 hv
  have h9' : Core7 W Bx 0 cs := ⟨h9.1, fun q hq => by rw [hW2.cell (p := ⟨Bx, 0 + q, none⟩) hBx]; exact h9.2 q hq⟩
  refine callsIn_of_wp Try.func35 rfl trivial ?_ rfl
  simp only [Try.ntmps35, List.size_toArray, List.length_cons, List.length_nil, Nat.reduceAdd, Nat.reduceSub, Array.replicate_succ, Array.replicate_zero, List.push_toArray, List.append_toArray, List.nil_append, List.cons_append]
  refine wpIn_wide.2 ?_
  go_wp2_with (first | (refine wpList_load_core rfl _ rfl Bx 0 cs rfl h9' ?_) | (go_at_call 36; refine hv.mono ?_; clear hv; rintro e w3 (⟨q, hq, rfl, hj⟩ | ⟨rfl, q, hq, hj⟩)) | fail)
  · go_end0
    exact ⟨⟨_, rfl⟩, .inl ⟨q, hq, hj⟩⟩
  · go_end0
    exact ⟨⟨_, rfl⟩, .inr ⟨q, hq, hj⟩⟩
/-- core.parts: the node lies in a block of its own -/
theorem nodes_walk {x : Cr} {cs : List Value} {w : World} (hat : Cr.at w x cs) (w' : World) :
    Calls Try.prog 25 #[.agg cs.toArray] w' fun e w'' => e = .returned (.func (.func 35) #[] #[.pointer (some ⟨w'.heap.size, 0, none⟩)]) ∧ w'' = w'.alloc (.cells cs.toArray 28) := by
  cases x with
  | mk k s n l =>
    rw [at_mk] at hat
    obtain ⟨_, _, a, cap, rfl, _, _⟩ := hat
    go_enter Try.func25, Try.ntmps25
    go_wp2_with fail
    go_ret
    exact ⟨rfl, rfl⟩
set_option maxRecDepth 100000 in
set_option maxHeartbeats 2000000 in
theorem size_walk {x : Cr} {cs : List Value} {w : World} (hat : Cr.at w x cs) :
    Calls Try.prog 20 #[.agg cs.toArray] w fun e w' => e = .returned (.int .i64 (sizeOfC x : Int)) ∧ Below w.heap.size w w' := by
  have hcs : ∃ k s n a len cap, cs = [.int .i64 k, .int .u64 (word s 0), .int .u64 (word s 1), .int .u64 (word s 2), .int .u64 (word s 3), .int .i64 n, .slice a len cap] := by
    cases x with
    | mk k s n l =>
      rw [at_mk] at hat
      obtain ⟨_, _, a, cap, hcs, _, _⟩ := hat
      exact ⟨_, _, _, _, _, _, hcs⟩
  have hno := fun w' => (callsIn_wide (n := 2)).2 (nodes_walk hat w')
  obtain ⟨k, s, n, a, len, cap, hcs⟩ := hcs
  obtain ⟨w0, hw0⟩ : ∃ w0, w0 = ((w.alloc (.cells cs.toArray 28)).alloc (.cells #[.int .i64 0] 3)).alloc (.cells cs.toArray 28) := ⟨_, rfl⟩
  have hs0 : w0.heap.size = w.heap.size + 3 := by rw [hw0]; simp
  have hb0 : Below w.heap.size w w0 := by
    rw [hw0]
    exact (((Below.refl _ _).alloc (Nat.le_refl _) _).alloc (by simp) _).alloc (by simp; omega) _
  have h9 : Core7 w0 (w.heap.size + 1 + 1) 0 cs := by
    have h := World.alloc_heap_new ((w.alloc (.cells cs.toArray 28)).alloc (.cells #[.int .i64 0] 3)) (.cells cs.toArray 28)
    rw [← hw0] at h
    simp only [World.size_alloc] at h
    refine ⟨by rw [hcs]; rfl, fun q hq => ?_⟩
    simp [World.cell?, h]
  have hvar : Var w0 (w.heap.size + 1) (.int .i64 0) 3 := by
    rw [hw0]
    have h := Var.new (w.alloc (.cells cs.toArray 28)) (.int .i64 0) 3
    rw [World.size_alloc] at h
    exact h.alloc _
  have hheld := nodes_held hat hb0 (Bx := w.heap.size + 1 + 1) (by omega) h9
  refine (callsIn_wide (n := 3)).1 ?_
  refine callsIn_of_wp_marks Try.func20 rfl trivial ?_ rfl
  subst hcs
  simp only [Try.ntmps20, List.size_toArray, List.length_cons, List.length_nil, Nat.reduceAdd, Nat.reduceSub, Array.replicate_succ, Array.replicate_zero, List.push_toArray, List.append_toArray, List.nil_append, List.cons_append]
  gi_wp2_with ((try refine ⟨trivial, ?_⟩); gi_at_call 25; refine (hno _).mono ?_; clear hno; rintro e w' ⟨rfl, rfl⟩)
  rw [← hw0]
  clear hw0 h9 hat
  refine wp_range_held (w := w0) rfl (enters_of Try.func35 (by kernel_rfl) rfl) hheld hb0.size (Below.refl _ _)
    (fun pre W => Var W (w.heap.size + 1) (.int .i64 (pre.length : Int)) 3 ∧ Below w.heap.size w0 W) (fun _ _ _ => False)
    (fun q A B row hs hg hr => ⟨Var.own _ _ _ _ () A B row hs.1 hg hr, ownFrom_below (β := Unit) hb0.size hb0.size () A B row hs.2 hg hr⟩) (fun _ _ _ _ _ h _ _ => h)
    (fun _ _ h => h.2) (fun _ _ _ h => h.elim) ⟨hvar, Below.refl _ _⟩ ?turn ?done ?stop
  case turn =>
    intro l m pre x W o K hi ho hlen hlt hK
    gi_wp2
    refine hK _ _ (KeepsFrom.refl _ _) fun W3 hto hs3 => ?_
    have v3 := hto _ (Var.own _ _ _ _) (hi.1.alloc o)
    have b3 := hto _ (ownFrom_below (β := Unit) hb0.size hb0.size) (hi.2.alloc (by omega) o)
    have k3 := hto _ (ownFrom_block _ _ _ ho) (World.alloc_heap_new W o)
    have hlt1 := hi.1.lt
    obtain ⟨c3, f3⟩ := v3.cell
    clear hK hto hi hheld
    have B3 := Lib.hid b3
    have K3 := Lib.hid k3
    have V3 := Lib.hid v3
    clear b3 k3 v3
    gi_wp2
    refine ⟨⟨(KeepsOthers.setCell _ _ _).from _, (Below.heap_setCell _ _ _ _ (by show W.heap.size ≠ w.heap.size + 1; omega)).trans K3.out⟩, ?_, B3.out.setCell (p := ⟨w.heap.size + 1, 0, none⟩) (Nat.le_succ _) _⟩
    have h := V3.out.set (.int .i64 ((pre.length : Int) + 1))
    rw [show (((pre ++ [x]).length : Nat) : Int) = (pre.length : Int) + 1 from by simp]
    exact h
  case done =>
    rintro D ys W hD hS ⟨hv, hb⟩ hk
    obtain ⟨c3, f3⟩ := hv.cell
    have hlen : (ys.length : Int) = (sizeOfC x : Int) := by
      have h := congrArg List.length hS
      rw [List.length_take, Cr.pre_length] at h
      simp only [nds, List.length_map] at h
      unfold sizeOfC
      omega
    have Hlen := Lib.hid hlen
    clear hlen hS
    gi_wp2
    refine ⟨by simp, .inl ⟨_, _, rfl, run_takeDeferred hk, ?_⟩⟩
    refine ⟨_, results_tmp rfl _ _ _, ?_, (hb0.trans hb).trans (belowK_b (w := w) (Nat.le_refl _) W D _ _ (by omega) hk rfl rfl)⟩
    rw [← Hlen.out]
    rfl
  case stop =>
    rintro D c pre W _ _ h _
    exact h.elim
end K
end Go.Proofs.Ytobhjfhmhhahoaa
