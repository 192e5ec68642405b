/- lang's machine: add, build, machineOf, walked. -/
import Derived.Test.YtobhjfhmhhahoaaLangStep
import Derived.Test.YtobhjfhmhhahoaaHold
import Derived.Test.YtobhjfhmhhahoaaFree
namespace Go.Proofs.Ytobhjfhmhhahoaa
namespace K
set_option maxRecDepth 100000
open Go.RowKit
abbrev maT : List TypeId := [57, 54]
/-- the machine with its states, and the one that is told -/
def Added (A m : Nat) (S : List St) (q : Nat) (w : World) (v : Nat) (e : Ending) (w' : World) : Prop := e = .returned (.int .i64 (v : Int)) ∧ MachAt A w' m S q ∧ Fr maT A w w'
theorem st_one (t : St) : ∀ u ∈ stVals t, u.oneCell' = true := by
  unfold stVals
  simp only [List.forall_mem_cons]
  exact ⟨rfl, rfl, rfl, rfl, rfl, rfl, rfl, fun p hp => by cases hp⟩
theorem wp_load_state {o : Oper} {a : Act} {w : World} {K : Act → World → Prop} {Q : Exit → Act → World → Prop} (x : Operand) (ho : o.op = .load 54 x) (b off : Nat) (cs : List Value) (hx : a.eval x = .pointer (some ⟨b, off, none⟩)) (hc : State7 w b off cs)
    (hK : K (a.put o.dst (.agg cs.toArray)) w) : o.wp Try.prog a w K Q := by
  unfold Oper.wp execOp
  simp only [ho, hx, Instr.loadAt, Instr.sureAddr, Sem.run_bind, Sem.run_pure, Result.andThen_ok, loadState hc]
  exact hK
theorem wp_append_state {o : Oper} {a : Act} {w : World} {K : Act → World → Prop} {Q : Exit → Act → World → Prop} (s x : Operand)
    (ho : o.op = .call { callee := .builtin .append, args := #[s, x], argTypes := #[55, 55] }) (base : Nat) (v : Value) (n : Nat) (xs : List Value) (hs : a.eval s = v)
    (hown : w.ownsRow base 54 7 v n xs) (b : Nat) (cs : List Value) (hx : a.eval x = .slice (some ⟨b, 0, none⟩) 1 1) (hc : State7 w b 0 cs) (h1 : ∀ u ∈ cs, u.oneCell' = true) (hn : n < 1000000000000) (hbase : base ≤ w.heap.size)
    (h : ∀ v' w', w'.ownsRow base 54 7 v' (n + 1) (xs ++ cs) → w.grownBy w' v.ownBlock → K (a.put o.dst v') w') : o.wp Try.prog a w K Q := by
  obtain ⟨i0, hi, hz0, hz1, hz2⟩ := info_parts info_state
  refine wp_append_own w s x _ ho base 54 i0 zeroState 7 56 Try.underlying55 hi hz0 hz1 hz2 rfl (by decide) v n xs hs hown ⟨b, 0, none⟩ 1 1 cs hx (by rw [hc.1]) ?_ h1 (by unfold maxLen; omega) (by omega) hbase ?_
  · intro j u hj
    have hjl : j < 7 := by rw [← hc.1]; exact (List.getElem?_eq_some_iff.1 hj).1
    rw [addr_at, hc.2 j hjl, hj]
  · intro v' w' g1 g2 _
    exact h v' w' g1 g2
theorem state7_in {w : World} {b : Nat} {cs : List Value} (h : w.heap[b]? = some (.cells cs.toArray 54)) (hc : cs.length = 7) : State7 w b 0 cs := ⟨hc, fun q _ => by rw [Nat.zero_add, cells_at h]; simp⟩
theorem add_end {A m q : Nat} {S : List St} {t : St} {w wn w2 : World} {v v2 : Value} (hown : wn.ownsRow A 54 7 v S.length (stRow S))
    (hown2 : w2.ownsRow A 54 7 v2 (S.length + 1) (stRow S ++ stVals t)) (hg : wn.grownBy w2 v.ownBlock) (hm2 : w2.heap[m]? = some (.cells #[v, .int .i64 q] 57)) (hb : Below w.heap.size w wn) (hA : A ≤ w.heap.size) (hAm : A ≤ m) :
    MachAt A (w2.setCell ⟨m, 0, none⟩ v2) m (S ++ [t]) q ∧ Fr maT A w (w2.setCell ⟨m, 0, none⟩ v2) := by
  refine ⟨⟨hAm, v2, heap_set hm2 0 v2, ?_⟩, ((Fr.of_below hb hA).grown (Nat.le_trans hA hb.size) hown hg (by decide)).setCell hAm hm2 (by decide) _⟩
  rw [List.length_append, stRow_snoc]
  exact owns_other hown2 (p := ⟨m, 0, none⟩) hm2 (by decide) _
theorem machAt_parts {A m q : Nat} {S : List St} {w : World} (h : MachAt A w m S q) : ∃ a cap, w.heap[m]? = some (.cells #[.slice a S.length cap, .int .i64 q] 57) ∧ w.ownsRow A 54 7 (.slice a S.length cap) S.length (stRow S) := by
  obtain ⟨_, v, hv, ho⟩ := h
  obtain ⟨a, cap, rfl⟩ := owns_form ho
  exact ⟨a, cap, hv, ho⟩
set_option maxHeartbeats 4000000 in
theorem add_walk {A m q : Nat} {S : List St} {w : World} (hm : MachAt A w m S q) (hS : S.length ≤ 100000) (hA : A ≤ w.heap.size) (t : St) :
    Calls Try.prog 37 #[.pointer (some ⟨m, 0, none⟩), .agg #[.bool t.fork, .int .u64 (word t.set 0), .int .u64 (word t.set 1), .int .u64 (word t.set 2), .int .u64 (word t.set 3), .int .i64 t.next, .int .i64 t.other]] w (Added A m (S ++ [t]) q w S.length) := by
  have hAm : A ≤ m := hm.1
  have hmlt := hm.lt
  obtain ⟨wd, hwd⟩ : ∃ wd, wd = (w.alloc (.cells #[.bool t.fork, .int .u64 (word t.set 0), .int .u64 (word t.set 1), .int .u64 (word t.set 2), .int .u64 (word t.set 3), .int .i64 t.next, .int .i64 t.other] 54)).drew := ⟨_, rfl⟩
  have hbel : Below w.heap.size w wd := by rw [hwd]; exact ((Below.refl _ _).alloc (Nat.le_refl _) _).drew
  have hx7 : State7 wd w.heap.size 0 [.bool t.fork, .int .u64 (word t.set 0), .int .u64 (word t.set 1), .int .u64 (word t.set 2), .int .u64 (word t.set 3), .int .i64 t.next, .int .i64 t.other] := by rw [hwd]; exact state7_in (World.alloc_heap_new w (.cells #[.bool t.fork, .int .u64 (word t.set 0), .int .u64 (word t.set 1), .int .u64 (word t.set 2), .int .u64 (word t.set 3), .int .i64 t.next, .int .i64 t.other] 54)) rfl
  have hsd : wd.heap.size = w.heap.size + 1 := by rw [hwd]; simp [World.drew]
  obtain ⟨a, cap, hmb, hown⟩ := machAt_parts (hm.below hbel)
  have d0 : wd.cell? ⟨m, 0, none⟩ = some (.slice a S.length cap) := by rw [cells_at hmb]; rfl
  have d1 : (wd.alloc (.cells #[.bool t.fork, .int .u64 (word t.set 0), .int .u64 (word t.set 1), .int .u64 (word t.set 2), .int .u64 (word t.set 3), .int .i64 t.next, .int .i64 t.other] 54)).cell? ⟨m, 0, none⟩ = some (.slice a S.length cap) := by
    rw [((Below.refl wd.heap.size wd).alloc (Nat.le_refl _) _).cell (p := ⟨m, 0, none⟩) (by rw [hsd]; show m < _; omega)]; exact d0
  have hb2 : Below wd.heap.size wd (wd.alloc (.cells #[.bool t.fork, .int .u64 (word t.set 0), .int .u64 (word t.set 1), .int .u64 (word t.set 2), .int .u64 (word t.set 3), .int .i64 t.next, .int .i64 t.other] 54)) := (Below.refl _ _).alloc (Nat.le_refl _) _
  have hx72 : State7 (wd.alloc (.cells #[.bool t.fork, .int .u64 (word t.set 0), .int .u64 (word t.set 1), .int .u64 (word t.set 2), .int .u64 (word t.set 3), .int .i64 t.next, .int .i64 t.other] 54)) w.heap.size 0 [.bool t.fork, .int .u64 (word t.set 0), .int .u64 (word t.set 1), .int .u64 (word t.set 2), .int .u64 (word t.set 3), .int .i64 t.next, .int .i64 t.other] := ⟨rfl, fun q hq => by rw [hb2.cell (p := ⟨w.heap.size, 0 + q, none⟩) (by rw [hsd]; show w.heap.size < _; omega)]; exact hx7.2 q hq⟩
  have hnew : State7 (wd.alloc (.cells #[.bool t.fork, .int .u64 (word t.set 0), .int .u64 (word t.set 1), .int .u64 (word t.set 2), .int .u64 (word t.set 3), .int .i64 t.next, .int .i64 t.other] 54)) wd.heap.size 0 (stVals t) := state7_in (World.alloc_heap_new wd (.cells #[.bool t.fork, .int .u64 (word t.set 0), .int .u64 (word t.set 1), .int .u64 (word t.set 2), .int .u64 (word t.set 3), .int .i64 t.next, .int .i64 t.other] 54)) rfl
  have hmb2 := (hb2.block _ (lt_of_block hmb)).trans hmb
  have hown2 := owns_below hown hb2
  obtain ⟨v, hv⟩ : ∃ v, v = Value.slice a S.length cap := ⟨_, rfl⟩
  have Hbel := Lib.hid (hbel.trans (hb2.mono hbel.size))
  have Hx7 := Lib.hid hx7
  have Hnew := Lib.hid hnew
  have Hmb := Lib.hid hmb2
  have Hown := Lib.hid hown2
  have Hbase := Lib.hid (Nat.le_trans hA (Nat.le_trans hbel.size hb2.size))
  clear hbel hx7 hsd hmb hown hb2 hx72 hnew hmb2 hown2 hm hv v
  go_enter Try.func37, Try.ntmps37
  go_upto_region 1 with fail
  refine wp_region_free (.plain 0 (.plain 1 (.fork 2 (.plain 3 (.fork 4 (.sole 5 (.sole 6 (.sole 7 (.sole 8 (.plain 9 (.sole 10 .done)))))) 5 (.fork 4 (.sole 6 (.sole 7 (.sole 8 (.plain 9 (.sole 10 .done))))) 6 (.sole 4 (.sole 7 (.sole 8 (.plain 9 (.sole 10 .done)))))))) 5 (.fork 2 (.plain 3 (.fork 4 (.sole 6 (.sole 7 (.sole 8 (.plain 9 (.sole 10 .done))))) 6 (.sole 4 (.sole 7 (.sole 8 (.plain 9 (.sole 10 .done))))))) 6 (.sole 2 (.plain 3 (.sole 4 (.sole 7 (.sole 8 (.plain 9 (.sole 10 .done))))))))))) (by kernel_rfl) (by kernel_rfl) (fun c a d v w h => by cases d <;> exact h) ?_
  rw [← hwd]
  clear hwd
  iterate 2
    refine' free_plain ?_ ?_ (fun K hK => ?_)
    rotate_left 1
    · simp only [List.getElem?_toArray, List.getElem?_cons_zero, List.getElem?_cons_succ]; exact rfl
    · exact rfl
    go_big_quiet_op
    refine hK _ ?_
    clear hK K
    try simp only [Act.put, List.setIfInBounds_toArray, List.set_cons_zero, List.set_cons_succ]
  refine free_fork ?_ ?_
  · refine' free_step ?_ ?_ (fun K hK => ?_)
    rotate_left 1
    · simp only [List.getElem?_toArray, List.getElem?_cons_zero, List.getElem?_cons_succ]; exact rfl
    · exact rfl
    unfold Oper.wp execOp
    go_simp
    refine hK _ _ ?_
    clear hK K
    try simp only [Act.put, List.setIfInBounds_toArray, List.set_cons_zero, List.set_cons_succ]
    iterate 1
      refine' free_plain ?_ ?_ (fun K hK => ?_)
      rotate_left 1
      · simp only [List.getElem?_toArray, List.getElem?_cons_zero, List.getElem?_cons_succ]; exact rfl
      · exact rfl
      go_big_quiet_op
      refine hK _ ?_
      clear hK K
      try simp only [Act.put, List.setIfInBounds_toArray, List.set_cons_zero, List.set_cons_succ]
    refine free_fork ?_ ?_
    · refine' free_step ?_ ?_ (fun K hK => ?_)
      rotate_left 1
      · simp only [List.getElem?_toArray, List.getElem?_cons_zero, List.getElem?_cons_succ]; exact rfl
      · exact rfl
      unfold Oper.wp execOp
      go_simp
      refine hK _ _ ?_
      clear hK K
      try simp only [Act.put, List.setIfInBounds_toArray, List.set_cons_zero, List.set_cons_succ]
      refine' free_sole ?_ ?_ (fun K hK => ?_)
      rotate_left 1
      · simp only [List.getElem?_toArray, List.getElem?_cons_zero, List.getElem?_cons_succ]; exact rfl
      · exact rfl
      refine wp_load_state _ rfl w.heap.size 0 _ rfl Hx7.out ?_
      refine hK _ _ ?_
      clear hK K
      try simp only [Act.put, List.setIfInBounds_toArray, List.set_cons_zero, List.set_cons_succ]
      refine' free_sole ?_ ?_ (fun K hK => ?_)
      rotate_left 1
      · simp only [List.getElem?_toArray, List.getElem?_cons_zero, List.getElem?_cons_succ]; exact rfl
      · exact rfl
      unfold Oper.wp execOp
      go_simp
      refine hK _ _ ?_
      clear hK K
      try simp only [Act.put, List.setIfInBounds_toArray, List.set_cons_zero, List.set_cons_succ]
      refine' free_sole ?_ ?_ (fun K hK => ?_)
      rotate_left 1
      · simp only [List.getElem?_toArray, List.getElem?_cons_zero, List.getElem?_cons_succ]; exact rfl
      · exact rfl
      refine wp_append_state _ _ rfl A (.slice a S.length cap) S.length (stRow S) rfl Hown.out wd.heap.size (stVals t) rfl Hnew.out (st_one t) (by omega) Hbase.out ?_
      intro v2 w2 hown2 hgrow
      refine hK _ _ ?_
      obtain ⟨va2, vcap2, hq⟩ := owns_form hown2
      subst hq
      have hm2 := block_kept Hmb.out Hown.out hgrow (by decide)
      have c20 : w2.cell? ⟨m, 0, none⟩ = some (.slice a S.length cap) := by rw [cells_at hm2]; rfl
      have c2f : ∀ o, w2.frozen? ⟨m, o, none⟩ = false := fun o => by simp [World.frozen?, hm2]
      have Hm2 := Lib.hid hm2
      have Hown2 := Lib.hid hown2
      have Hgrow := Lib.hid hgrow
      clear hm2 hown2 hgrow d0 d1
      clear hK K
      try simp only [Act.put, List.setIfInBounds_toArray, List.set_cons_zero, List.set_cons_succ]
      refine' free_sole ?_ ?_ (fun K hK => ?_)
      rotate_left 1
      · simp only [List.getElem?_toArray, List.getElem?_cons_zero, List.getElem?_cons_succ]; exact rfl
      · exact rfl
      unfold Oper.wp execOp
      go_simp
      refine hK _ _ ?_
      clear hK K
      try simp only [Act.put, List.setIfInBounds_toArray, List.set_cons_zero, List.set_cons_succ]
      iterate 1
        refine' free_plain ?_ ?_ (fun K hK => ?_)
        rotate_left 1
        · simp only [List.getElem?_toArray, List.getElem?_cons_zero, List.getElem?_cons_succ]; exact rfl
        · exact rfl
        go_big_quiet_op
        refine hK _ ?_
        clear hK K
        try simp only [Act.put, List.setIfInBounds_toArray, List.set_cons_zero, List.set_cons_succ]
      refine' free_sole ?_ ?_ (fun K hK => ?_)
      rotate_left 1
      · simp only [List.getElem?_toArray, List.getElem?_cons_zero, List.getElem?_cons_succ]; exact rfl
      · exact rfl
      unfold Oper.wp execOp
      go_simp
      refine hK _ _ ?_
      clear hK K
      try simp only [Act.put, List.setIfInBounds_toArray, List.set_cons_zero, List.set_cons_succ]
      refine free_done ?_
      have hfin := add_end Hown.out Hown2.out Hgrow.out Hm2.out Hbel.out (by omega) hAm
      have Hfin := Lib.hid hfin
      have ca0 : (w2.setCell ⟨m, 0, none⟩ (.slice va2 (S.length + 1) vcap2)).cell? ⟨m, 0, none⟩ = some (.slice va2 (S.length + 1) vcap2) := by rw [cells_at (heap_set Hm2.out 0 _)]; rfl
      clear c20 c2f hfin
      generalize w2.setCell ⟨m, 0, none⟩ (.slice va2 (S.length + 1) vcap2) = w3 at *
      go_wp2_with fail
      go_ret
      exact ⟨by simp, Hfin.out.1, Hfin.out.2⟩
    · refine' free_step ?_ ?_ (fun K hK => ?_)
      rotate_left 1
      · simp only [List.getElem?_toArray, List.getElem?_cons_zero, List.getElem?_cons_succ]; exact rfl
      · exact rfl
      refine wp_load_state _ rfl w.heap.size 0 _ rfl Hx7.out ?_
      refine hK _ _ ?_
      clear hK K
      try simp only [Act.put, List.setIfInBounds_toArray, List.set_cons_zero, List.set_cons_succ]
      refine free_fork ?_ ?_
      · refine' free_step ?_ ?_ (fun K hK => ?_)
        rotate_left 1
        · simp only [List.getElem?_toArray, List.getElem?_cons_zero, List.getElem?_cons_succ]; exact rfl
        · exact rfl
        unfold Oper.wp execOp
        go_simp
        refine hK _ _ ?_
        clear hK K
        try simp only [Act.put, List.setIfInBounds_toArray, List.set_cons_zero, List.set_cons_succ]
        refine' free_sole ?_ ?_ (fun K hK => ?_)
        rotate_left 1
        · simp only [List.getElem?_toArray, List.getElem?_cons_zero, List.getElem?_cons_succ]; exact rfl
        · exact rfl
        unfold Oper.wp execOp
        go_simp
        refine hK _ _ ?_
        clear hK K
        try simp only [Act.put, List.setIfInBounds_toArray, List.set_cons_zero, List.set_cons_succ]
        refine' free_sole ?_ ?_ (fun K hK => ?_)
        rotate_left 1
        · simp only [List.getElem?_toArray, List.getElem?_cons_zero, List.getElem?_cons_succ]; exact rfl
        · exact rfl
        refine wp_append_state _ _ rfl A (.slice a S.length cap) S.length (stRow S) rfl Hown.out wd.heap.size (stVals t) rfl Hnew.out (st_one t) (by omega) Hbase.out ?_
        intro v2 w2 hown2 hgrow
        refine hK _ _ ?_
        obtain ⟨va2, vcap2, hq⟩ := owns_form hown2
        subst hq
        have hm2 := block_kept Hmb.out Hown.out hgrow (by decide)
        have c20 : w2.cell? ⟨m, 0, none⟩ = some (.slice a S.length cap) := by rw [cells_at hm2]; rfl
        have c2f : ∀ o, w2.frozen? ⟨m, o, none⟩ = false := fun o => by simp [World.frozen?, hm2]
        have Hm2 := Lib.hid hm2
        have Hown2 := Lib.hid hown2
        have Hgrow := Lib.hid hgrow
        clear hm2 hown2 hgrow d0 d1
        clear hK K
        try simp only [Act.put, List.setIfInBounds_toArray, List.set_cons_zero, List.set_cons_succ]
        refine' free_sole ?_ ?_ (fun K hK => ?_)
        rotate_left 1
        · simp only [List.getElem?_toArray, List.getElem?_cons_zero, List.getElem?_cons_succ]; exact rfl
        · exact rfl
        unfold Oper.wp execOp
        go_simp
        refine hK _ _ ?_
        clear hK K
        try simp only [Act.put, List.setIfInBounds_toArray, List.set_cons_zero, List.set_cons_succ]
        iterate 1
          refine' free_plain ?_ ?_ (fun K hK => ?_)
          rotate_left 1
          · simp only [List.getElem?_toArray, List.getElem?_cons_zero, List.getElem?_cons_succ]; exact rfl
          · exact rfl
          go_big_quiet_op
          refine hK _ ?_
          clear hK K
          try simp only [Act.put, List.setIfInBounds_toArray, List.set_cons_zero, List.set_cons_succ]
        refine' free_sole ?_ ?_ (fun K hK => ?_)
        rotate_left 1
        · simp only [List.getElem?_toArray, List.getElem?_cons_zero, List.getElem?_cons_succ]; exact rfl
        · exact rfl
        unfold Oper.wp execOp
        go_simp
        refine hK _ _ ?_
        clear hK K
        try simp only [Act.put, List.setIfInBounds_toArray, List.set_cons_zero, List.set_cons_succ]
        refine free_done ?_
        have hfin := add_end Hown.out Hown2.out Hgrow.out Hm2.out Hbel.out (by omega) hAm
        have Hfin := Lib.hid hfin
        have ca0 : (w2.setCell ⟨m, 0, none⟩ (.slice va2 (S.length + 1) vcap2)).cell? ⟨m, 0, none⟩ = some (.slice va2 (S.length + 1) vcap2) := by rw [cells_at (heap_set Hm2.out 0 _)]; rfl
        clear c20 c2f hfin
        generalize w2.setCell ⟨m, 0, none⟩ (.slice va2 (S.length + 1) vcap2) = w3 at *
        go_wp2_with fail
        go_ret
        exact ⟨by simp, Hfin.out.1, Hfin.out.2⟩
      · refine' free_step ?_ ?_ (fun K hK => ?_)
        rotate_left 1
        · simp only [List.getElem?_toArray, List.getElem?_cons_zero, List.getElem?_cons_succ]; exact rfl
        · exact rfl
        unfold Oper.wp execOp
        go_simp
        refine hK _ _ ?_
        clear hK K
        try simp only [Act.put, List.setIfInBounds_toArray, List.set_cons_zero, List.set_cons_succ]
        refine' free_sole ?_ ?_ (fun K hK => ?_)
        rotate_left 1
        · simp only [List.getElem?_toArray, List.getElem?_cons_zero, List.getElem?_cons_succ]; exact rfl
        · exact rfl
        unfold Oper.wp execOp
        go_simp
        refine hK _ _ ?_
        clear hK K
        try simp only [Act.put, List.setIfInBounds_toArray, List.set_cons_zero, List.set_cons_succ]
        refine' free_sole ?_ ?_ (fun K hK => ?_)
        rotate_left 1
        · simp only [List.getElem?_toArray, List.getElem?_cons_zero, List.getElem?_cons_succ]; exact rfl
        · exact rfl
        refine wp_append_state _ _ rfl A (.slice a S.length cap) S.length (stRow S) rfl Hown.out wd.heap.size (stVals t) rfl Hnew.out (st_one t) (by omega) Hbase.out ?_
        intro v2 w2 hown2 hgrow
        refine hK _ _ ?_
        obtain ⟨va2, vcap2, hq⟩ := owns_form hown2
        subst hq
        have hm2 := block_kept Hmb.out Hown.out hgrow (by decide)
        have c20 : w2.cell? ⟨m, 0, none⟩ = some (.slice a S.length cap) := by rw [cells_at hm2]; rfl
        have c2f : ∀ o, w2.frozen? ⟨m, o, none⟩ = false := fun o => by simp [World.frozen?, hm2]
        have Hm2 := Lib.hid hm2
        have Hown2 := Lib.hid hown2
        have Hgrow := Lib.hid hgrow
        clear hm2 hown2 hgrow d0 d1
        clear hK K
        try simp only [Act.put, List.setIfInBounds_toArray, List.set_cons_zero, List.set_cons_succ]
        refine' free_sole ?_ ?_ (fun K hK => ?_)
        rotate_left 1
        · simp only [List.getElem?_toArray, List.getElem?_cons_zero, List.getElem?_cons_succ]; exact rfl
        · exact rfl
        unfold Oper.wp execOp
        go_simp
        refine hK _ _ ?_
        clear hK K
        try simp only [Act.put, List.setIfInBounds_toArray, List.set_cons_zero, List.set_cons_succ]
        iterate 1
          refine' free_plain ?_ ?_ (fun K hK => ?_)
          rotate_left 1
          · simp only [List.getElem?_toArray, List.getElem?_cons_zero, List.getElem?_cons_succ]; exact rfl
          · exact rfl
          go_big_quiet_op
          refine hK _ ?_
          clear hK K
          try simp only [Act.put, List.setIfInBounds_toArray, List.set_cons_zero, List.set_cons_succ]
        refine' free_sole ?_ ?_ (fun K hK => ?_)
        rotate_left 1
        · simp only [List.getElem?_toArray, List.getElem?_cons_zero, List.getElem?_cons_succ]; exact rfl
        · exact rfl
        unfold Oper.wp execOp
        go_simp
        refine hK _ _ ?_
        clear hK K
        try simp only [Act.put, List.setIfInBounds_toArray, List.set_cons_zero, List.set_cons_succ]
        refine free_done ?_
        have hfin := add_end Hown.out Hown2.out Hgrow.out Hm2.out Hbel.out (by omega) hAm
        have Hfin := Lib.hid hfin
        have ca0 : (w2.setCell ⟨m, 0, none⟩ (.slice va2 (S.length + 1) vcap2)).cell? ⟨m, 0, none⟩ = some (.slice va2 (S.length + 1) vcap2) := by rw [cells_at (heap_set Hm2.out 0 _)]; rfl
        clear c20 c2f hfin
        generalize w2.setCell ⟨m, 0, none⟩ (.slice va2 (S.length + 1) vcap2) = w3 at *
        go_wp2_with fail
        go_ret
        exact ⟨by simp, Hfin.out.1, Hfin.out.2⟩
  · refine' free_step ?_ ?_ (fun K hK => ?_)
    rotate_left 1
    · simp only [List.getElem?_toArray, List.getElem?_cons_zero, List.getElem?_cons_succ]; exact rfl
    · exact rfl
    refine wp_load_state _ rfl w.heap.size 0 _ rfl Hx7.out ?_
    refine hK _ _ ?_
    clear hK K
    try simp only [Act.put, List.setIfInBounds_toArray, List.set_cons_zero, List.set_cons_succ]
    refine free_fork ?_ ?_
    · refine' free_step ?_ ?_ (fun K hK => ?_)
      rotate_left 1
      · simp only [List.getElem?_toArray, List.getElem?_cons_zero, List.getElem?_cons_succ]; exact rfl
      · exact rfl
      unfold Oper.wp execOp
      go_simp
      refine hK _ _ ?_
      clear hK K
      try simp only [Act.put, List.setIfInBounds_toArray, List.set_cons_zero, List.set_cons_succ]
      iterate 1
        refine' free_plain ?_ ?_ (fun K hK => ?_)
        rotate_left 1
        · simp only [List.getElem?_toArray, List.getElem?_cons_zero, List.getElem?_cons_succ]; exact rfl
        · exact rfl
        go_big_quiet_op
        refine hK _ ?_
        clear hK K
        try simp only [Act.put, List.setIfInBounds_toArray, List.set_cons_zero, List.set_cons_succ]
      refine free_fork ?_ ?_
      · refine' free_step ?_ ?_ (fun K hK => ?_)
        rotate_left 1
        · simp only [List.getElem?_toArray, List.getElem?_cons_zero, List.getElem?_cons_succ]; exact rfl
        · exact rfl
        unfold Oper.wp execOp
        go_simp
        refine hK _ _ ?_
        clear hK K
        try simp only [Act.put, List.setIfInBounds_toArray, List.set_cons_zero, List.set_cons_succ]
        refine' free_sole ?_ ?_ (fun K hK => ?_)
        rotate_left 1
        · simp only [List.getElem?_toArray, List.getElem?_cons_zero, List.getElem?_cons_succ]; exact rfl
        · exact rfl
        unfold Oper.wp execOp
        go_simp
        refine hK _ _ ?_
        clear hK K
        try simp only [Act.put, List.setIfInBounds_toArray, List.set_cons_zero, List.set_cons_succ]
        refine' free_sole ?_ ?_ (fun K hK => ?_)
        rotate_left 1
        · simp only [List.getElem?_toArray, List.getElem?_cons_zero, List.getElem?_cons_succ]; exact rfl
        · exact rfl
        refine wp_append_state _ _ rfl A (.slice a S.length cap) S.length (stRow S) rfl Hown.out wd.heap.size (stVals t) rfl Hnew.out (st_one t) (by omega) Hbase.out ?_
        intro v2 w2 hown2 hgrow
        refine hK _ _ ?_
        obtain ⟨va2, vcap2, hq⟩ := owns_form hown2
        subst hq
        have hm2 := block_kept Hmb.out Hown.out hgrow (by decide)
        have c20 : w2.cell? ⟨m, 0, none⟩ = some (.slice a S.length cap) := by rw [cells_at hm2]; rfl
        have c2f : ∀ o, w2.frozen? ⟨m, o, none⟩ = false := fun o => by simp [World.frozen?, hm2]
        have Hm2 := Lib.hid hm2
        have Hown2 := Lib.hid hown2
        have Hgrow := Lib.hid hgrow
        clear hm2 hown2 hgrow d0 d1
        clear hK K
        try simp only [Act.put, List.setIfInBounds_toArray, List.set_cons_zero, List.set_cons_succ]
        refine' free_sole ?_ ?_ (fun K hK => ?_)
        rotate_left 1
        · simp only [List.getElem?_toArray, List.getElem?_cons_zero, List.getElem?_cons_succ]; exact rfl
        · exact rfl
        unfold Oper.wp execOp
        go_simp
        refine hK _ _ ?_
        clear hK K
        try simp only [Act.put, List.setIfInBounds_toArray, List.set_cons_zero, List.set_cons_succ]
        iterate 1
          refine' free_plain ?_ ?_ (fun K hK => ?_)
          rotate_left 1
          · simp only [List.getElem?_toArray, List.getElem?_cons_zero, List.getElem?_cons_succ]; exact rfl
          · exact rfl
          go_big_quiet_op
          refine hK _ ?_
          clear hK K
          try simp only [Act.put, List.setIfInBounds_toArray, List.set_cons_zero, List.set_cons_succ]
        refine' free_sole ?_ ?_ (fun K hK => ?_)
        rotate_left 1
        · simp only [List.getElem?_toArray, List.getElem?_cons_zero, List.getElem?_cons_succ]; exact rfl
        · exact rfl
        unfold Oper.wp execOp
        go_simp
        refine hK _ _ ?_
        clear hK K
        try simp only [Act.put, List.setIfInBounds_toArray, List.set_cons_zero, List.set_cons_succ]
        refine free_done ?_
        have hfin := add_end Hown.out Hown2.out Hgrow.out Hm2.out Hbel.out (by omega) hAm
        have Hfin := Lib.hid hfin
        have ca0 : (w2.setCell ⟨m, 0, none⟩ (.slice va2 (S.length + 1) vcap2)).cell? ⟨m, 0, none⟩ = some (.slice va2 (S.length + 1) vcap2) := by rw [cells_at (heap_set Hm2.out 0 _)]; rfl
        clear c20 c2f hfin
        generalize w2.setCell ⟨m, 0, none⟩ (.slice va2 (S.length + 1) vcap2) = w3 at *
        go_wp2_with fail
        go_ret
        exact ⟨by simp, Hfin.out.1, Hfin.out.2⟩
      · refine' free_step ?_ ?_ (fun K hK => ?_)
        rotate_left 1
        · simp only [List.getElem?_toArray, List.getElem?_cons_zero, List.getElem?_cons_succ]; exact rfl
        · exact rfl
        unfold Oper.wp execOp
        go_simp
        refine hK _ _ ?_
        clear hK K
        try simp only [Act.put, List.setIfInBounds_toArray, List.set_cons_zero, List.set_cons_succ]
        refine' free_sole ?_ ?_ (fun K hK => ?_)
        rotate_left 1
        · simp only [List.getElem?_toArray, List.getElem?_cons_zero, List.getElem?_cons_succ]; exact rfl
        · exact rfl
        unfold Oper.wp execOp
        go_simp
        refine hK _ _ ?_
        clear hK K
        try simp only [Act.put, List.setIfInBounds_toArray, List.set_cons_zero, List.set_cons_succ]
        refine' free_sole ?_ ?_ (fun K hK => ?_)
        rotate_left 1
        · simp only [List.getElem?_toArray, List.getElem?_cons_zero, List.getElem?_cons_succ]; exact rfl
        · exact rfl
        refine wp_append_state _ _ rfl A (.slice a S.length cap) S.length (stRow S) rfl Hown.out wd.heap.size (stVals t) rfl Hnew.out (st_one t) (by omega) Hbase.out ?_
        intro v2 w2 hown2 hgrow
        refine hK _ _ ?_
        obtain ⟨va2, vcap2, hq⟩ := owns_form hown2
        subst hq
        have hm2 := block_kept Hmb.out Hown.out hgrow (by decide)
        have c20 : w2.cell? ⟨m, 0, none⟩ = some (.slice a S.length cap) := by rw [cells_at hm2]; rfl
        have c2f : ∀ o, w2.frozen? ⟨m, o, none⟩ = false := fun o => by simp [World.frozen?, hm2]
        have Hm2 := Lib.hid hm2
        have Hown2 := Lib.hid hown2
        have Hgrow := Lib.hid hgrow
        clear hm2 hown2 hgrow d0 d1
        clear hK K
        try simp only [Act.put, List.setIfInBounds_toArray, List.set_cons_zero, List.set_cons_succ]
        refine' free_sole ?_ ?_ (fun K hK => ?_)
        rotate_left 1
        · simp only [List.getElem?_toArray, List.getElem?_cons_zero, List.getElem?_cons_succ]; exact rfl
        · exact rfl
        unfold Oper.wp execOp
        go_simp
        refine hK _ _ ?_
        clear hK K
        try simp only [Act.put, List.setIfInBounds_toArray, List.set_cons_zero, List.set_cons_succ]
        iterate 1
          refine' free_plain ?_ ?_ (fun K hK => ?_)
          rotate_left 1
          · simp only [List.getElem?_toArray, List.getElem?_cons_zero, List.getElem?_cons_succ]; exact rfl
          · exact rfl
          go_big_quiet_op
          refine hK _ ?_
          clear hK K
          try simp only [Act.put, List.setIfInBounds_toArray, List.set_cons_zero, List.set_cons_succ]
        refine' free_sole ?_ ?_ (fun K hK => ?_)
        rotate_left 1
        · simp only [List.getElem?_toArray, List.getElem?_cons_zero, List.getElem?_cons_succ]; exact rfl
        · exact rfl
        unfold Oper.wp execOp
        go_simp
        refine hK _ _ ?_
        clear hK K
        try simp only [Act.put, List.setIfInBounds_toArray, List.set_cons_zero, List.set_cons_succ]
        refine free_done ?_
        have hfin := add_end Hown.out Hown2.out Hgrow.out Hm2.out Hbel.out (by omega) hAm
        have Hfin := Lib.hid hfin
        have ca0 : (w2.setCell ⟨m, 0, none⟩ (.slice va2 (S.length + 1) vcap2)).cell? ⟨m, 0, none⟩ = some (.slice va2 (S.length + 1) vcap2) := by rw [cells_at (heap_set Hm2.out 0 _)]; rfl
        clear c20 c2f hfin
        generalize w2.setCell ⟨m, 0, none⟩ (.slice va2 (S.length + 1) vcap2) = w3 at *
        go_wp2_with fail
        go_ret
        exact ⟨by simp, Hfin.out.1, Hfin.out.2⟩
    · refine' free_step ?_ ?_ (fun K hK => ?_)
      rotate_left 1
      · simp only [List.getElem?_toArray, List.getElem?_cons_zero, List.getElem?_cons_succ]; exact rfl
      · exact rfl
      unfold Oper.wp execOp
      go_simp
      refine hK _ _ ?_
      clear hK K
      try simp only [Act.put, List.setIfInBounds_toArray, List.set_cons_zero, List.set_cons_succ]
      refine' free_sole ?_ ?_ (fun K hK => ?_)
      rotate_left 1
      · simp only [List.getElem?_toArray, List.getElem?_cons_zero, List.getElem?_cons_succ]; exact rfl
      · exact rfl
      unfold Oper.wp execOp
      go_simp
      refine hK _ _ ?_
      clear hK K
      try simp only [Act.put, List.setIfInBounds_toArray, List.set_cons_zero, List.set_cons_succ]
      iterate 1
        refine' free_plain ?_ ?_ (fun K hK => ?_)
        rotate_left 1
        · simp only [List.getElem?_toArray, List.getElem?_cons_zero, List.getElem?_cons_succ]; exact rfl
        · exact rfl
        go_big_quiet_op
        refine hK _ ?_
        clear hK K
        try simp only [Act.put, List.setIfInBounds_toArray, List.set_cons_zero, List.set_cons_succ]
      refine' free_sole ?_ ?_ (fun K hK => ?_)
      rotate_left 1
      · simp only [List.getElem?_toArray, List.getElem?_cons_zero, List.getElem?_cons_succ]; exact rfl
      · exact rfl
      unfold Oper.wp execOp
      go_simp
      refine hK _ _ ?_
      clear hK K
      try simp only [Act.put, List.setIfInBounds_toArray, List.set_cons_zero, List.set_cons_succ]
      refine' free_sole ?_ ?_ (fun K hK => ?_)
      rotate_left 1
      · simp only [List.getElem?_toArray, List.getElem?_cons_zero, List.getElem?_cons_succ]; exact rfl
      · exact rfl
      refine wp_append_state _ _ rfl A (.slice a S.length cap) S.length (stRow S) rfl Hown.out wd.heap.size (stVals t) rfl Hnew.out (st_one t) (by omega) Hbase.out ?_
      intro v2 w2 hown2 hgrow
      refine hK _ _ ?_
      obtain ⟨va2, vcap2, hq⟩ := owns_form hown2
      subst hq
      have hm2 := block_kept Hmb.out Hown.out hgrow (by decide)
      have c20 : w2.cell? ⟨m, 0, none⟩ = some (.slice a S.length cap) := by rw [cells_at hm2]; rfl
      have c2f : ∀ o, w2.frozen? ⟨m, o, none⟩ = false := fun o => by simp [World.frozen?, hm2]
      have Hm2 := Lib.hid hm2
      have Hown2 := Lib.hid hown2
      have Hgrow := Lib.hid hgrow
      clear hm2 hown2 hgrow d0 d1
      clear hK K
      try simp only [Act.put, List.setIfInBounds_toArray, List.set_cons_zero, List.set_cons_succ]
      refine' free_sole ?_ ?_ (fun K hK => ?_)
      rotate_left 1
      · simp only [List.getElem?_toArray, List.getElem?_cons_zero, List.getElem?_cons_succ]; exact rfl
      · exact rfl
      unfold Oper.wp execOp
      go_simp
      refine hK _ _ ?_
      clear hK K
      try simp only [Act.put, List.setIfInBounds_toArray, List.set_cons_zero, List.set_cons_succ]
      iterate 1
        refine' free_plain ?_ ?_ (fun K hK => ?_)
        rotate_left 1
        · simp only [List.getElem?_toArray, List.getElem?_cons_zero, List.getElem?_cons_succ]; exact rfl
        · exact rfl
        go_big_quiet_op
        refine hK _ ?_
        clear hK K
        try simp only [Act.put, List.setIfInBounds_toArray, List.set_cons_zero, List.set_cons_succ]
      refine' free_sole ?_ ?_ (fun K hK => ?_)
      rotate_left 1
      · simp only [List.getElem?_toArray, List.getElem?_cons_zero, List.getElem?_cons_succ]; exact rfl
      · exact rfl
      unfold Oper.wp execOp
      go_simp
      refine hK _ _ ?_
      clear hK K
      try simp only [Act.put, List.setIfInBounds_toArray, List.set_cons_zero, List.set_cons_succ]
      refine free_done ?_
      have hfin := add_end Hown.out Hown2.out Hgrow.out Hm2.out Hbel.out (by omega) hAm
      have Hfin := Lib.hid hfin
      have ca0 : (w2.setCell ⟨m, 0, none⟩ (.slice va2 (S.length + 1) vcap2)).cell? ⟨m, 0, none⟩ = some (.slice va2 (S.length + 1) vcap2) := by rw [cells_at (heap_set Hm2.out 0 _)]; rfl
      clear c20 c2f hfin
      generalize w2.setCell ⟨m, 0, none⟩ (.slice va2 (S.length + 1) vcap2) = w3 at *
      go_wp2_with fail
      go_ret
      exact ⟨by simp, Hfin.out.1, Hfin.out.2⟩
end K
end Go.Proofs.Ytobhjfhmhhahoaa
