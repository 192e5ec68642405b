/- The walk of the law 'just as the chapter says' on sets. -/
import Derived.Test.YtgdkopcfkoikjaaDoorRefCmp
import Derived.Test.YtgdkopcfkoikjaaDoorSetAwake
import Derived.Deep.DeepCutAuto
import Derived.Deep.QuietTactic
namespace Go.Proofs.YtgdkopcfkoikjaaDoor
open Go.RowKit

abbrev ZB : Obj := .cells (bc bNone) 28
theorem bytesAt_keep {w w' : World} {a : Option Addr} {n cap : Nat} {l : List Nat} (h : BytesAt w a n cap l) (hb : Below w.heap.size w w') : BytesAt w' a n cap l := by
  obtain ⟨h1, h2, h3, h4⟩ := h
  refine ⟨h1, h2, h3, ?_⟩
  rcases h4 with h | ⟨b, off, e, hc, hlt, hcell⟩
  · exact .inl h
  · exact .inr ⟨b, off, e, hc, Nat.lt_of_lt_of_le hlt hb.size, fun j hj => by rw [hb.cell (p := ⟨b, off + j, none⟩) hlt]; exact hcell j hj⟩
theorem setAt_keep {B : Nat} {w w' : World} {b : Nat} {s : BitVec 256} (h : SetAt w b s) (hb : Below B w w') (hlt : b < B) : SetAt w' b s := by
  unfold SetAt at *
  rw [hb.block b hlt]; exact h
theorem setAt_made (w : World) (s : BitVec 256) (g : Nat) (hg : g = w.heap.size) : SetAt (w.alloc (.cells #[.int .u64 (word s 0), .int .u64 (word s 1), .int .u64 (word s 2), .int .u64 (word s 3)] 24)) g s := by
  subst hg
  unfold SetAt World.alloc
  simp
theorem eql_true (f g : Nat → Bool) (h : ∀ j, j < 256 → f j = g j) (w : World) : (Op.equalIn 10000 28 (BV f) (BV g)).run Tryd.prog w = .ok true w := by
  rw [eql_ref]
  congr 1
  rw [List.all_eq_true]
  intro i hi
  rw [h i (List.mem_range.1 hi)]
  simp
theorem refRuns_at (s : BitVec 256) (w : World) : Calls Tryd.prog 23 #[BV s.getLsbD] w (RunsAt w (runsOf (elems s))) := by
  refine (refRuns_any s.getLsbD w).mono ?_
  rintro e w' ⟨v, rfl, hown, hb⟩
  rw [below_all] at hown
  obtain ⟨a, c, rfl⟩ := owns_form hown
  have hl := runsOf_length (elems s)
  have hl' := elems_length_le s
  refine ⟨a, c, rfl, hb, by omega, fun j hj => ?_⟩
  have hrow := hown.2
  rcases hrow with ⟨hv, h0⟩ | ⟨g, cap, cur, hv, hg, hblk, hnc, _⟩
  · omega
  · cases hv
    obtain ⟨h1, h2⟩ := runCells_get _ j hj
    exact ⟨g, rfl, hg, lt_of_block hblk, hnc, by rw [hown.cellAt _ (by omega)]; exact h1, by rw [hown.cellAt _ (by omega)]; exact h2⟩
set_option maxHeartbeats 8000000 in
set_option maxRecDepth 100000 in
theorem says_front (s t : BitVec 256) (lo : Nat) (hlo : lo < 256) (hi : Nat) (hhi : hi < 256) (a : Option Addr) (n cap : Nat) (l : List Nat) (w : World) (hl : BytesAt w a n cap l) (hT : TabAt 1 Lib.deBruijn64tab w) (hn : ¬ n > 300) :
    Calls Tryd.prog 3 #[SV s, SV t, .int .u8 lo, .int .u8 hi, .slice a n cap] w fun e w' => e = .returned (.bool true) ∧ Below w.heap.size w w' := by
  have hz := zeroRef
  have hd300 : decide ((n : Int) > 300) = false := by simp; omega
  have hTT := Lib.hid hT
  have hll := Lib.hid hl
  clear hT hl
  go_enter Tryd.func3, Tryd.ntmps3
  go_wp2_with fail
  refine (awake_any _ (tab_alloc (tab_alloc hTT.out _) _)).mono ?_
  rintro e w1 ⟨rfl, hb1⟩
  have hA1 := setAt_keep (setAt_alloc (setAt_made w s _ rfl) _) hb1 (by simp; try omega)
  have hB1 := setAt_keep (setAt_made (w.alloc _) t (w.heap.size + 1) (by simp)) hb1 (by simp; try omega)
  have hT1 := tab_below (tab_alloc (tab_alloc hTT.out _) _) hb1 (by have := tab_pos hTT.out; simp; try omega)
  have B1 : Below w.heap.size w w1 := (((Below.refl _ _).alloc (Nat.le_refl _) _).alloc (by simp) _).trans (hb1.mono (by simp; omega))
  have hl1 := bytesAt_keep hll.out B1
  have HT1 := Lib.hid hT1
  have HL1 := Lib.hid hl1
  clear hb1 hT1 hl1
  go_upto_region 5 with fail
  have hzA := setAt_lt hA1
  have hzB := setAt_lt hB1
  have la0 := fun (L : Later w1) => (setAt_keep hA1 L.ok hzA).cell 0 (by decide)
  have lb0 := fun (L : Later w1) => (setAt_keep hB1 L.ok hzB).cell 0 (by decide)
  have la1 := fun (L : Later w1) => (setAt_keep hA1 L.ok hzA).cell 1 (by decide)
  have lb1 := fun (L : Later w1) => (setAt_keep hB1 L.ok hzB).cell 1 (by decide)
  have la2 := fun (L : Later w1) => (setAt_keep hA1 L.ok hzA).cell 2 (by decide)
  have lb2 := fun (L : Later w1) => (setAt_keep hB1 L.ok hzB).cell 2 (by decide)
  have la3 := fun (L : Later w1) => (setAt_keep hA1 L.ok hzA).cell 3 (by decide)
  have lb3 := fun (L : Later w1) => (setAt_keep hB1 L.ok hzB).cell 3 (by decide)
  have hcur := (Below.refl w1.heap.size w1).drew
  have hne1 := Later.nonempty w1
  go_cut [11, 12] from 24 to 27 (fun u v wx => ∃ B C, u = .pointer (some ⟨B, 0, none⟩) ∧ v = .pointer (some ⟨C, 0, none⟩) ∧ BAt wx B s.getLsbD ∧ BAt wx C t.getLsbD ∧ Below w1.heap.size w1 wx)
  case first =>
    refine wp_region_eager (.plain 0 (.plain 2 (.fork3 1 (.fork3 3 (.fork 4 (.sole 5 (.sole 6 (.sole 7 .done))) 5 (.sole 4 (.sole 6 (.sole 7 .done)))) 4 (.fork 3 (.sole 5 (.sole 6 (.sole 7 .done))) 5 (.sole 3 (.sole 6 (.sole 7 .done)))) 5 (.fork 3 (.sole 4 (.sole 6 (.sole 7 .done))) 4 (.sole 3 (.sole 6 (.sole 7 .done))))) 4 (.fork 1 (.fork 3 (.sole 5 (.sole 6 (.sole 7 .done))) 5 (.sole 3 (.sole 6 (.sole 7 .done)))) 5 (.sole 1 (.sole 3 (.sole 6 (.sole 7 .done))))) 5 (.fork 1 (.fork 3 (.sole 4 (.sole 6 (.sole 7 .done))) 4 (.sole 3 (.sole 6 (.sole 7 .done)))) 4 (.sole 1 (.sole 3 (.sole 6 (.sole 7 .done)))))))) (W0 := w1) (Below.refl _ _) (by kernel_rfl) (by as_aux_lemma => kernel_rfl) (fun c a d v w h => by cases d <;> exact h) ?_
    refine' eager_want ?_ ?_ (fun K hK => ?_)
    rotate_left 1
    · simp only [List.getElem?_toArray, List.getElem?_cons_zero, List.getElem?_cons_succ]; exact rfl
    · exact rfl
    go_big_quiet_op
    refine hK _ ?_
    clear hK K
    refine' eager_want ?_ ?_ (fun K hK => ?_)
    rotate_left 1
    · simp only [List.getElem?_toArray, List.getElem?_cons_zero, List.getElem?_cons_succ]; exact rfl
    · exact rfl
    go_big_quiet_op
    refine hK _ ?_
    clear hK K
    refine eager_fork3 ?_ ?_ ?_ 
    · refine' step_call ?_ ?_ (fun K hK => ?_)
      rotate_left 1
      · simp only [List.getElem?_toArray, List.getElem?_cons_zero, List.getElem?_cons_succ]; exact rfl
      · exact rfl
      go_simp
      refine (own1_any s _).mono ?_
      rintro e v1 ⟨rfl, hb⟩
      refine hK _ _ hb ?_
      have hcur := hcur.trans (hb.mono hcur.size)
      clear hb hK K
      refine eager_fork3 ?_ ?_ ?_ 
      · refine' step_call ?_ ?_ (fun K hK => ?_)
        rotate_left 1
        · simp only [List.getElem?_toArray, List.getElem?_cons_zero, List.getElem?_cons_succ]; exact rfl
        · exact rfl
        go_simp
        refine (own1_any t _).mono ?_
        rintro e v2 ⟨rfl, hb⟩
        refine hK _ _ hb ?_
        have hcur := hcur.trans (hb.mono hcur.size)
        clear hb hK K
        refine eager_fork ?_ ?_ 
        · have g4 : w1.heap.size ≤ v2.heap.size := by have := hcur.size; first | exact this | (simp; done) | simpa using this
          refine' step_call ?_ ?_ (fun K hK => ?_)
          rotate_left 1
          · simp only [List.getElem?_toArray, List.getElem?_cons_zero, List.getElem?_cons_succ]; exact rfl
          · exact rfl
          go_simp
          refine hK _ _ ((Below.refl _ _).alloc (Nat.le_refl _) _) ?_
          have z4 := BAt.start (v2) ZB bNone rfl (v2.heap.size) (by first | rfl | simp)
          have hcur := hcur.alloc hcur.size ZB
          clear hK K
          have g5 : w1.heap.size ≤ v2.heap.size + 1 := by have := hcur.size; first | exact this | (simp; done) | simpa using this
          have hne : v2.heap.size ≠ v2.heap.size + 1 := by have := z4.lt; first | exact Nat.ne_of_lt this | (simp at this; omega)
          refine' eager_call ?_ ?_ (fun K hK => ?_)
          rotate_left 1
          · simp only [List.getElem?_toArray, List.getElem?_cons_zero, List.getElem?_cons_succ]; exact rfl
          · exact rfl
          go_simp
          refine hK _ _ ((Below.refl _ _).alloc (Nat.le_refl _) _) ?_
          have z4 := z4.alloc ZB
          have z5 := BAt.start ((v2.alloc ZB)) ZB bNone rfl (v2.heap.size + 1) (by first | rfl | simp)
          have hcur := hcur.alloc hcur.size ZB
          clear hK K
          try (simp only [Act.put, List.setIfInBounds_toArray, List.set_cons_zero, List.set_cons_succ])
          refine' eager_write ?_ ?_ (fun K hK => ?_)
          rotate_left 1
          · simp only [List.getElem?_toArray, List.getElem?_cons_zero, List.getElem?_cons_succ]; exact rfl
          · exact rfl
          refine wp_store_row 28 _ _ rfl (v2.heap.size) _ rfl rfl _ _ z4 (infoRef' _) (by rw [bc_size, bc_size]) (bc_one _) ?_
          refine hK _ _ (below_row (Below.refl _ _) g4 _) ?_
          clear hK K
          have z5 := z5.row (v2.heap.size) (bc s.getLsbD) (by first | exact hne | exact hne.symm)
          have z4 := BAt.rowSame (g := s.getLsbD) z4
          have hcur := below_row hcur g4 (bc s.getLsbD)
          try (simp only [Act.put, List.setIfInBounds_toArray, List.set_cons_zero, List.set_cons_succ])
          refine' eager_write ?_ ?_ (fun K hK => ?_)
          rotate_left 1
          · simp only [List.getElem?_toArray, List.getElem?_cons_zero, List.getElem?_cons_succ]; exact rfl
          · exact rfl
          refine wp_store_row 28 _ _ rfl (v2.heap.size + 1) _ rfl rfl _ _ z5 (infoRef' _) (by rw [bc_size, bc_size]) (bc_one _) ?_
          refine hK _ _ (below_row (Below.refl _ _) g5 _) ?_
          clear hK K
          have z4 := z4.row (v2.heap.size + 1) (bc t.getLsbD) (by first | exact hne | exact hne.symm)
          have z5 := BAt.rowSame (g := t.getLsbD) z5
          have hcur := below_row hcur g5 (bc t.getLsbD)
          refine eager_done ?_
          try (simp only [Act.put, List.setIfInBounds_toArray, List.set_cons_zero, List.set_cons_succ])
          go_wp2_with fail
          go_meet
          exact ⟨_, _, rfl, rfl, z4, z5, hcur⟩
        · have g5 : w1.heap.size ≤ v2.heap.size := by have := hcur.size; first | exact this | (simp; done) | simpa using this
          refine' step_call ?_ ?_ (fun K hK => ?_)
          rotate_left 1
          · simp only [List.getElem?_toArray, List.getElem?_cons_zero, List.getElem?_cons_succ]; exact rfl
          · exact rfl
          go_simp
          refine hK _ _ ((Below.refl _ _).alloc (Nat.le_refl _) _) ?_
          have z5 := BAt.start (v2) ZB bNone rfl (v2.heap.size) (by first | rfl | simp)
          have hcur := hcur.alloc hcur.size ZB
          clear hK K
          have g4 : w1.heap.size ≤ v2.heap.size + 1 := by have := hcur.size; first | exact this | (simp; done) | simpa using this
          have hne : v2.heap.size ≠ v2.heap.size + 1 := by have := z5.lt; first | exact Nat.ne_of_lt this | (simp at this; omega)
          refine' eager_call ?_ ?_ (fun K hK => ?_)
          rotate_left 1
          · simp only [List.getElem?_toArray, List.getElem?_cons_zero, List.getElem?_cons_succ]; exact rfl
          · exact rfl
          go_simp
          refine hK _ _ ((Below.refl _ _).alloc (Nat.le_refl _) _) ?_
          have z5 := z5.alloc ZB
          have z4 := BAt.start ((v2.alloc ZB)) ZB bNone rfl (v2.heap.size + 1) (by first | rfl | simp)
          have hcur := hcur.alloc hcur.size ZB
          clear hK K
          try (simp only [Act.put, List.setIfInBounds_toArray, List.set_cons_zero, List.set_cons_succ])
          refine' eager_write ?_ ?_ (fun K hK => ?_)
          rotate_left 1
          · simp only [List.getElem?_toArray, List.getElem?_cons_zero, List.getElem?_cons_succ]; exact rfl
          · exact rfl
          refine wp_store_row 28 _ _ rfl (v2.heap.size + 1) _ rfl rfl _ _ z4 (infoRef' _) (by rw [bc_size, bc_size]) (bc_one _) ?_
          refine hK _ _ (below_row (Below.refl _ _) g4 _) ?_
          clear hK K
          have z5 := z5.row (v2.heap.size + 1) (bc s.getLsbD) (by first | exact hne | exact hne.symm)
          have z4 := BAt.rowSame (g := s.getLsbD) z4
          have hcur := below_row hcur g4 (bc s.getLsbD)
          try (simp only [Act.put, List.setIfInBounds_toArray, List.set_cons_zero, List.set_cons_succ])
          refine' eager_write ?_ ?_ (fun K hK => ?_)
          rotate_left 1
          · simp only [List.getElem?_toArray, List.getElem?_cons_zero, List.getElem?_cons_succ]; exact rfl
          · exact rfl
          refine wp_store_row 28 _ _ rfl (v2.heap.size) _ rfl rfl _ _ z5 (infoRef' _) (by rw [bc_size, bc_size]) (bc_one _) ?_
          refine hK _ _ (below_row (Below.refl _ _) g5 _) ?_
          clear hK K
          have z4 := z4.row (v2.heap.size) (bc t.getLsbD) (by first | exact hne | exact hne.symm)
          have z5 := BAt.rowSame (g := t.getLsbD) z5
          have hcur := below_row hcur g5 (bc t.getLsbD)
          refine eager_done ?_
          try (simp only [Act.put, List.setIfInBounds_toArray, List.set_cons_zero, List.set_cons_succ])
          go_wp2_with fail
          go_meet
          exact ⟨_, _, rfl, rfl, z4, z5, hcur⟩
      · have g4 : w1.heap.size ≤ v1.heap.size := by have := hcur.size; first | exact this | (simp; done) | simpa using this
        refine' step_call ?_ ?_ (fun K hK => ?_)
        rotate_left 1
        · simp only [List.getElem?_toArray, List.getElem?_cons_zero, List.getElem?_cons_succ]; exact rfl
        · exact rfl
        go_simp
        refine hK _ _ ((Below.refl _ _).alloc (Nat.le_refl _) _) ?_
        have z4 := BAt.start (v1) ZB bNone rfl (v1.heap.size) (by first | rfl | simp)
        have hcur := hcur.alloc hcur.size ZB
        clear hK K
        refine eager_fork ?_ ?_ 
        · refine' step_call ?_ ?_ (fun K hK => ?_)
          rotate_left 1
          · simp only [List.getElem?_toArray, List.getElem?_cons_zero, List.getElem?_cons_succ]; exact rfl
          · exact rfl
          go_simp
          refine (own1_any t _).mono ?_
          rintro e v3 ⟨rfl, hb⟩
          refine hK _ _ hb ?_
          have z4 := z4.below hb z4.lt
          have hcur := hcur.trans (hb.mono hcur.size)
          clear hb hK K
          have g5 : w1.heap.size ≤ v3.heap.size := by have := hcur.size; first | exact this | (simp; done) | simpa using this
          have hne : v1.heap.size ≠ v3.heap.size := by have := z4.lt; first | exact Nat.ne_of_lt this | (simp at this; omega)
          refine' eager_call ?_ ?_ (fun K hK => ?_)
          rotate_left 1
          · simp only [List.getElem?_toArray, List.getElem?_cons_zero, List.getElem?_cons_succ]; exact rfl
          · exact rfl
          go_simp
          refine hK _ _ ((Below.refl _ _).alloc (Nat.le_refl _) _) ?_
          have z4 := z4.alloc ZB
          have z5 := BAt.start (v3) ZB bNone rfl (v3.heap.size) (by first | rfl | simp)
          have hcur := hcur.alloc hcur.size ZB
          clear hK K
          try (simp only [Act.put, List.setIfInBounds_toArray, List.set_cons_zero, List.set_cons_succ])
          refine' eager_write ?_ ?_ (fun K hK => ?_)
          rotate_left 1
          · simp only [List.getElem?_toArray, List.getElem?_cons_zero, List.getElem?_cons_succ]; exact rfl
          · exact rfl
          refine wp_store_row 28 _ _ rfl (v1.heap.size) _ rfl rfl _ _ z4 (infoRef' _) (by rw [bc_size, bc_size]) (bc_one _) ?_
          refine hK _ _ (below_row (Below.refl _ _) g4 _) ?_
          clear hK K
          have z5 := z5.row (v1.heap.size) (bc s.getLsbD) (by first | exact hne | exact hne.symm)
          have z4 := BAt.rowSame (g := s.getLsbD) z4
          have hcur := below_row hcur g4 (bc s.getLsbD)
          try (simp only [Act.put, List.setIfInBounds_toArray, List.set_cons_zero, List.set_cons_succ])
          refine' eager_write ?_ ?_ (fun K hK => ?_)
          rotate_left 1
          · simp only [List.getElem?_toArray, List.getElem?_cons_zero, List.getElem?_cons_succ]; exact rfl
          · exact rfl
          refine wp_store_row 28 _ _ rfl (v3.heap.size) _ rfl rfl _ _ z5 (infoRef' _) (by rw [bc_size, bc_size]) (bc_one _) ?_
          refine hK _ _ (below_row (Below.refl _ _) g5 _) ?_
          clear hK K
          have z4 := z4.row (v3.heap.size) (bc t.getLsbD) (by first | exact hne | exact hne.symm)
          have z5 := BAt.rowSame (g := t.getLsbD) z5
          have hcur := below_row hcur g5 (bc t.getLsbD)
          refine eager_done ?_
          try (simp only [Act.put, List.setIfInBounds_toArray, List.set_cons_zero, List.set_cons_succ])
          go_wp2_with fail
          go_meet
          exact ⟨_, _, rfl, rfl, z4, z5, hcur⟩
        · have g5 : w1.heap.size ≤ v1.heap.size + 1 := by have := hcur.size; first | exact this | (simp; done) | simpa using this
          have hne : v1.heap.size ≠ v1.heap.size + 1 := by have := z4.lt; first | exact Nat.ne_of_lt this | (simp at this; omega)
          refine' step_call ?_ ?_ (fun K hK => ?_)
          rotate_left 1
          · simp only [List.getElem?_toArray, List.getElem?_cons_zero, List.getElem?_cons_succ]; exact rfl
          · exact rfl
          go_simp
          refine hK _ _ ((Below.refl _ _).alloc (Nat.le_refl _) _) ?_
          have z4 := z4.alloc ZB
          have z5 := BAt.start ((v1.alloc ZB)) ZB bNone rfl (v1.heap.size + 1) (by first | rfl | simp)
          have hcur := hcur.alloc hcur.size ZB
          clear hK K
          refine' eager_call ?_ ?_ (fun K hK => ?_)
          rotate_left 1
          · simp only [List.getElem?_toArray, List.getElem?_cons_zero, List.getElem?_cons_succ]; exact rfl
          · exact rfl
          go_simp
          refine (own1_any t _).mono ?_
          rintro e v4 ⟨rfl, hb⟩
          refine hK _ _ hb ?_
          have z4 := z4.below hb z4.lt
          have z5 := z5.below hb z5.lt
          have hcur := hcur.trans (hb.mono hcur.size)
          clear hb hK K
          try (simp only [Act.put, List.setIfInBounds_toArray, List.set_cons_zero, List.set_cons_succ])
          refine' eager_write ?_ ?_ (fun K hK => ?_)
          rotate_left 1
          · simp only [List.getElem?_toArray, List.getElem?_cons_zero, List.getElem?_cons_succ]; exact rfl
          · exact rfl
          refine wp_store_row 28 _ _ rfl (v1.heap.size) _ rfl rfl _ _ z4 (infoRef' _) (by rw [bc_size, bc_size]) (bc_one _) ?_
          refine hK _ _ (below_row (Below.refl _ _) g4 _) ?_
          clear hK K
          have z5 := z5.row (v1.heap.size) (bc s.getLsbD) (by first | exact hne | exact hne.symm)
          have z4 := BAt.rowSame (g := s.getLsbD) z4
          have hcur := below_row hcur g4 (bc s.getLsbD)
          try (simp only [Act.put, List.setIfInBounds_toArray, List.set_cons_zero, List.set_cons_succ])
          refine' eager_write ?_ ?_ (fun K hK => ?_)
          rotate_left 1
          · simp only [List.getElem?_toArray, List.getElem?_cons_zero, List.getElem?_cons_succ]; exact rfl
          · exact rfl
          refine wp_store_row 28 _ _ rfl (v1.heap.size + 1) _ rfl rfl _ _ z5 (infoRef' _) (by rw [bc_size, bc_size]) (bc_one _) ?_
          refine hK _ _ (below_row (Below.refl _ _) g5 _) ?_
          clear hK K
          have z4 := z4.row (v1.heap.size + 1) (bc t.getLsbD) (by first | exact hne | exact hne.symm)
          have z5 := BAt.rowSame (g := t.getLsbD) z5
          have hcur := below_row hcur g5 (bc t.getLsbD)
          refine eager_done ?_
          try (simp only [Act.put, List.setIfInBounds_toArray, List.set_cons_zero, List.set_cons_succ])
          go_wp2_with fail
          go_meet
          exact ⟨_, _, rfl, rfl, z4, z5, hcur⟩
      · have g5 : w1.heap.size ≤ v1.heap.size := by have := hcur.size; first | exact this | (simp; done) | simpa using this
        refine' step_call ?_ ?_ (fun K hK => ?_)
        rotate_left 1
        · simp only [List.getElem?_toArray, List.getElem?_cons_zero, List.getElem?_cons_succ]; exact rfl
        · exact rfl
        go_simp
        refine hK _ _ ((Below.refl _ _).alloc (Nat.le_refl _) _) ?_
        have z5 := BAt.start (v1) ZB bNone rfl (v1.heap.size) (by first | rfl | simp)
        have hcur := hcur.alloc hcur.size ZB
        clear hK K
        refine eager_fork ?_ ?_ 
        · refine' step_call ?_ ?_ (fun K hK => ?_)
          rotate_left 1
          · simp only [List.getElem?_toArray, List.getElem?_cons_zero, List.getElem?_cons_succ]; exact rfl
          · exact rfl
          go_simp
          refine (own1_any t _).mono ?_
          rintro e v3 ⟨rfl, hb⟩
          refine hK _ _ hb ?_
          have z5 := z5.below hb z5.lt
          have hcur := hcur.trans (hb.mono hcur.size)
          clear hb hK K
          have g4 : w1.heap.size ≤ v3.heap.size := by have := hcur.size; first | exact this | (simp; done) | simpa using this
          have hne : v1.heap.size ≠ v3.heap.size := by have := z5.lt; first | exact Nat.ne_of_lt this | (simp at this; omega)
          refine' eager_call ?_ ?_ (fun K hK => ?_)
          rotate_left 1
          · simp only [List.getElem?_toArray, List.getElem?_cons_zero, List.getElem?_cons_succ]; exact rfl
          · exact rfl
          go_simp
          refine hK _ _ ((Below.refl _ _).alloc (Nat.le_refl _) _) ?_
          have z5 := z5.alloc ZB
          have z4 := BAt.start (v3) ZB bNone rfl (v3.heap.size) (by first | rfl | simp)
          have hcur := hcur.alloc hcur.size ZB
          clear hK K
          try (simp only [Act.put, List.setIfInBounds_toArray, List.set_cons_zero, List.set_cons_succ])
          refine' eager_write ?_ ?_ (fun K hK => ?_)
          rotate_left 1
          · simp only [List.getElem?_toArray, List.getElem?_cons_zero, List.getElem?_cons_succ]; exact rfl
          · exact rfl
          refine wp_store_row 28 _ _ rfl (v3.heap.size) _ rfl rfl _ _ z4 (infoRef' _) (by rw [bc_size, bc_size]) (bc_one _) ?_
          refine hK _ _ (below_row (Below.refl _ _) g4 _) ?_
          clear hK K
          have z5 := z5.row (v3.heap.size) (bc s.getLsbD) (by first | exact hne | exact hne.symm)
          have z4 := BAt.rowSame (g := s.getLsbD) z4
          have hcur := below_row hcur g4 (bc s.getLsbD)
          try (simp only [Act.put, List.setIfInBounds_toArray, List.set_cons_zero, List.set_cons_succ])
          refine' eager_write ?_ ?_ (fun K hK => ?_)
          rotate_left 1
          · simp only [List.getElem?_toArray, List.getElem?_cons_zero, List.getElem?_cons_succ]; exact rfl
          · exact rfl
          refine wp_store_row 28 _ _ rfl (v1.heap.size) _ rfl rfl _ _ z5 (infoRef' _) (by rw [bc_size, bc_size]) (bc_one _) ?_
          refine hK _ _ (below_row (Below.refl _ _) g5 _) ?_
          clear hK K
          have z4 := z4.row (v1.heap.size) (bc t.getLsbD) (by first | exact hne | exact hne.symm)
          have z5 := BAt.rowSame (g := t.getLsbD) z5
          have hcur := below_row hcur g5 (bc t.getLsbD)
          refine eager_done ?_
          try (simp only [Act.put, List.setIfInBounds_toArray, List.set_cons_zero, List.set_cons_succ])
          go_wp2_with fail
          go_meet
          exact ⟨_, _, rfl, rfl, z4, z5, hcur⟩
        · have g4 : w1.heap.size ≤ v1.heap.size + 1 := by have := hcur.size; first | exact this | (simp; done) | simpa using this
          have hne : v1.heap.size ≠ v1.heap.size + 1 := by have := z5.lt; first | exact Nat.ne_of_lt this | (simp at this; omega)
          refine' step_call ?_ ?_ (fun K hK => ?_)
          rotate_left 1
          · simp only [List.getElem?_toArray, List.getElem?_cons_zero, List.getElem?_cons_succ]; exact rfl
          · exact rfl
          go_simp
          refine hK _ _ ((Below.refl _ _).alloc (Nat.le_refl _) _) ?_
          have z5 := z5.alloc ZB
          have z4 := BAt.start ((v1.alloc ZB)) ZB bNone rfl (v1.heap.size + 1) (by first | rfl | simp)
          have hcur := hcur.alloc hcur.size ZB
          clear hK K
          refine' eager_call ?_ ?_ (fun K hK => ?_)
          rotate_left 1
          · simp only [List.getElem?_toArray, List.getElem?_cons_zero, List.getElem?_cons_succ]; exact rfl
          · exact rfl
          go_simp
          refine (own1_any t _).mono ?_
          rintro e v4 ⟨rfl, hb⟩
          refine hK _ _ hb ?_
          have z5 := z5.below hb z5.lt
          have z4 := z4.below hb z4.lt
          have hcur := hcur.trans (hb.mono hcur.size)
          clear hb hK K
          try (simp only [Act.put, List.setIfInBounds_toArray, List.set_cons_zero, List.set_cons_succ])
          refine' eager_write ?_ ?_ (fun K hK => ?_)
          rotate_left 1
          · simp only [List.getElem?_toArray, List.getElem?_cons_zero, List.getElem?_cons_succ]; exact rfl
          · exact rfl
          refine wp_store_row 28 _ _ rfl (v1.heap.size + 1) _ rfl rfl _ _ z4 (infoRef' _) (by rw [bc_size, bc_size]) (bc_one _) ?_
          refine hK _ _ (below_row (Below.refl _ _) g4 _) ?_
          clear hK K
          have z5 := z5.row (v1.heap.size + 1) (bc s.getLsbD) (by first | exact hne | exact hne.symm)
          have z4 := BAt.rowSame (g := s.getLsbD) z4
          have hcur := below_row hcur g4 (bc s.getLsbD)
          try (simp only [Act.put, List.setIfInBounds_toArray, List.set_cons_zero, List.set_cons_succ])
          refine' eager_write ?_ ?_ (fun K hK => ?_)
          rotate_left 1
          · simp only [List.getElem?_toArray, List.getElem?_cons_zero, List.getElem?_cons_succ]; exact rfl
          · exact rfl
          refine wp_store_row 28 _ _ rfl (v1.heap.size) _ rfl rfl _ _ z5 (infoRef' _) (by rw [bc_size, bc_size]) (bc_one _) ?_
          refine hK _ _ (below_row (Below.refl _ _) g5 _) ?_
          clear hK K
          have z4 := z4.row (v1.heap.size) (bc t.getLsbD) (by first | exact hne | exact hne.symm)
          have z5 := BAt.rowSame (g := t.getLsbD) z5
          have hcur := below_row hcur g5 (bc t.getLsbD)
          refine eager_done ?_
          try (simp only [Act.put, List.setIfInBounds_toArray, List.set_cons_zero, List.set_cons_succ])
          go_wp2_with fail
          go_meet
          exact ⟨_, _, rfl, rfl, z4, z5, hcur⟩
    · have g4 : w1.heap.size ≤ w1.heap.size := by have := hcur.size; first | exact this | (simp; done) | simpa using this
      refine' step_call ?_ ?_ (fun K hK => ?_)
      rotate_left 1
      · simp only [List.getElem?_toArray, List.getElem?_cons_zero, List.getElem?_cons_succ]; exact rfl
      · exact rfl
      go_simp
      refine hK _ _ ((Below.refl _ _).alloc (Nat.le_refl _) _) ?_
      have z4 := BAt.start (w1.drew) ZB bNone rfl (w1.heap.size) (by first | rfl | simp)
      have hcur := hcur.alloc hcur.size ZB
      clear hK K
      refine eager_fork ?_ ?_ 
      · refine' step_call ?_ ?_ (fun K hK => ?_)
        rotate_left 1
        · simp only [List.getElem?_toArray, List.getElem?_cons_zero, List.getElem?_cons_succ]; exact rfl
        · exact rfl
        go_simp
        refine (own1_any s _).mono ?_
        rintro e v2 ⟨rfl, hb⟩
        refine hK _ _ hb ?_
        have z4 := z4.below hb z4.lt
        have hcur := hcur.trans (hb.mono hcur.size)
        clear hb hK K
        refine eager_fork ?_ ?_ 
        · refine' step_call ?_ ?_ (fun K hK => ?_)
          rotate_left 1
          · simp only [List.getElem?_toArray, List.getElem?_cons_zero, List.getElem?_cons_succ]; exact rfl
          · exact rfl
          go_simp
          refine (own1_any t _).mono ?_
          rintro e v3 ⟨rfl, hb⟩
          refine hK _ _ hb ?_
          have z4 := z4.below hb z4.lt
          have hcur := hcur.trans (hb.mono hcur.size)
          clear hb hK K
          have g5 : w1.heap.size ≤ v3.heap.size := by have := hcur.size; first | exact this | (simp; done) | simpa using this
          have hne : w1.heap.size ≠ v3.heap.size := by have := z4.lt; first | exact Nat.ne_of_lt this | (simp at this; omega)
          refine' eager_call ?_ ?_ (fun K hK => ?_)
          rotate_left 1
          · simp only [List.getElem?_toArray, List.getElem?_cons_zero, List.getElem?_cons_succ]; exact rfl
          · exact rfl
          go_simp
          refine hK _ _ ((Below.refl _ _).alloc (Nat.le_refl _) _) ?_
          have z4 := z4.alloc ZB
          have z5 := BAt.start (v3) ZB bNone rfl (v3.heap.size) (by first | rfl | simp)
          have hcur := hcur.alloc hcur.size ZB
          clear hK K
          try (simp only [Act.put, List.setIfInBounds_toArray, List.set_cons_zero, List.set_cons_succ])
          refine' eager_write ?_ ?_ (fun K hK => ?_)
          rotate_left 1
          · simp only [List.getElem?_toArray, List.getElem?_cons_zero, List.getElem?_cons_succ]; exact rfl
          · exact rfl
          refine wp_store_row 28 _ _ rfl (w1.heap.size) _ rfl rfl _ _ z4 (infoRef' _) (by rw [bc_size, bc_size]) (bc_one _) ?_
          refine hK _ _ (below_row (Below.refl _ _) g4 _) ?_
          clear hK K
          have z5 := z5.row (w1.heap.size) (bc s.getLsbD) (by first | exact hne | exact hne.symm)
          have z4 := BAt.rowSame (g := s.getLsbD) z4
          have hcur := below_row hcur g4 (bc s.getLsbD)
          try (simp only [Act.put, List.setIfInBounds_toArray, List.set_cons_zero, List.set_cons_succ])
          refine' eager_write ?_ ?_ (fun K hK => ?_)
          rotate_left 1
          · simp only [List.getElem?_toArray, List.getElem?_cons_zero, List.getElem?_cons_succ]; exact rfl
          · exact rfl
          refine wp_store_row 28 _ _ rfl (v3.heap.size) _ rfl rfl _ _ z5 (infoRef' _) (by rw [bc_size, bc_size]) (bc_one _) ?_
          refine hK _ _ (below_row (Below.refl _ _) g5 _) ?_
          clear hK K
          have z4 := z4.row (v3.heap.size) (bc t.getLsbD) (by first | exact hne | exact hne.symm)
          have z5 := BAt.rowSame (g := t.getLsbD) z5
          have hcur := below_row hcur g5 (bc t.getLsbD)
          refine eager_done ?_
          try (simp only [Act.put, List.setIfInBounds_toArray, List.set_cons_zero, List.set_cons_succ])
          go_wp2_with fail
          go_meet
          exact ⟨_, _, rfl, rfl, z4, z5, hcur⟩
        · have g5 : w1.heap.size ≤ v2.heap.size := by have := hcur.size; first | exact this | (simp; done) | simpa using this
          have hne : w1.heap.size ≠ v2.heap.size := by have := z4.lt; first | exact Nat.ne_of_lt this | (simp at this; omega)
          refine' step_call ?_ ?_ (fun K hK => ?_)
          rotate_left 1
          · simp only [List.getElem?_toArray, List.getElem?_cons_zero, List.getElem?_cons_succ]; exact rfl
          · exact rfl
          go_simp
          refine hK _ _ ((Below.refl _ _).alloc (Nat.le_refl _) _) ?_
          have z4 := z4.alloc ZB
          have z5 := BAt.start (v2) ZB bNone rfl (v2.heap.size) (by first | rfl | simp)
          have hcur := hcur.alloc hcur.size ZB
          clear hK K
          refine' eager_call ?_ ?_ (fun K hK => ?_)
          rotate_left 1
          · simp only [List.getElem?_toArray, List.getElem?_cons_zero, List.getElem?_cons_succ]; exact rfl
          · exact rfl
          go_simp
          refine (own1_any t _).mono ?_
          rintro e v4 ⟨rfl, hb⟩
          refine hK _ _ hb ?_
          have z4 := z4.below hb z4.lt
          have z5 := z5.below hb z5.lt
          have hcur := hcur.trans (hb.mono hcur.size)
          clear hb hK K
          try (simp only [Act.put, List.setIfInBounds_toArray, List.set_cons_zero, List.set_cons_succ])
          refine' eager_write ?_ ?_ (fun K hK => ?_)
          rotate_left 1
          · simp only [List.getElem?_toArray, List.getElem?_cons_zero, List.getElem?_cons_succ]; exact rfl
          · exact rfl
          refine wp_store_row 28 _ _ rfl (w1.heap.size) _ rfl rfl _ _ z4 (infoRef' _) (by rw [bc_size, bc_size]) (bc_one _) ?_
          refine hK _ _ (below_row (Below.refl _ _) g4 _) ?_
          clear hK K
          have z5 := z5.row (w1.heap.size) (bc s.getLsbD) (by first | exact hne | exact hne.symm)
          have z4 := BAt.rowSame (g := s.getLsbD) z4
          have hcur := below_row hcur g4 (bc s.getLsbD)
          try (simp only [Act.put, List.setIfInBounds_toArray, List.set_cons_zero, List.set_cons_succ])
          refine' eager_write ?_ ?_ (fun K hK => ?_)
          rotate_left 1
          · simp only [List.getElem?_toArray, List.getElem?_cons_zero, List.getElem?_cons_succ]; exact rfl
          · exact rfl
          refine wp_store_row 28 _ _ rfl (v2.heap.size) _ rfl rfl _ _ z5 (infoRef' _) (by rw [bc_size, bc_size]) (bc_one _) ?_
          refine hK _ _ (below_row (Below.refl _ _) g5 _) ?_
          clear hK K
          have z4 := z4.row (v2.heap.size) (bc t.getLsbD) (by first | exact hne | exact hne.symm)
          have z5 := BAt.rowSame (g := t.getLsbD) z5
          have hcur := below_row hcur g5 (bc t.getLsbD)
          refine eager_done ?_
          try (simp only [Act.put, List.setIfInBounds_toArray, List.set_cons_zero, List.set_cons_succ])
          go_wp2_with fail
          go_meet
          exact ⟨_, _, rfl, rfl, z4, z5, hcur⟩
      · have g5 : w1.heap.size ≤ w1.heap.size + 1 := by have := hcur.size; first | exact this | (simp; done) | simpa using this
        have hne : w1.heap.size ≠ w1.heap.size + 1 := by have := z4.lt; first | exact Nat.ne_of_lt this | (simp at this; omega)
        refine' step_call ?_ ?_ (fun K hK => ?_)
        rotate_left 1
        · simp only [List.getElem?_toArray, List.getElem?_cons_zero, List.getElem?_cons_succ]; exact rfl
        · exact rfl
        go_simp
        refine hK _ _ ((Below.refl _ _).alloc (Nat.le_refl _) _) ?_
        have z4 := z4.alloc ZB
        have z5 := BAt.start ((w1.drew.alloc ZB)) ZB bNone rfl (w1.heap.size + 1) (by first | rfl | simp)
        have hcur := hcur.alloc hcur.size ZB
        clear hK K
        refine' eager_call ?_ ?_ (fun K hK => ?_)
        rotate_left 1
        · simp only [List.getElem?_toArray, List.getElem?_cons_zero, List.getElem?_cons_succ]; exact rfl
        · exact rfl
        go_simp
        refine (own1_any s _).mono ?_
        rintro e v3 ⟨rfl, hb⟩
        refine hK _ _ hb ?_
        have z4 := z4.below hb z4.lt
        have z5 := z5.below hb z5.lt
        have hcur := hcur.trans (hb.mono hcur.size)
        clear hb hK K
        refine' eager_call ?_ ?_ (fun K hK => ?_)
        rotate_left 1
        · simp only [List.getElem?_toArray, List.getElem?_cons_zero, List.getElem?_cons_succ]; exact rfl
        · exact rfl
        go_simp
        refine (own1_any t _).mono ?_
        rintro e v4 ⟨rfl, hb⟩
        refine hK _ _ hb ?_
        have z4 := z4.below hb z4.lt
        have z5 := z5.below hb z5.lt
        have hcur := hcur.trans (hb.mono hcur.size)
        clear hb hK K
        try (simp only [Act.put, List.setIfInBounds_toArray, List.set_cons_zero, List.set_cons_succ])
        refine' eager_write ?_ ?_ (fun K hK => ?_)
        rotate_left 1
        · simp only [List.getElem?_toArray, List.getElem?_cons_zero, List.getElem?_cons_succ]; exact rfl
        · exact rfl
        refine wp_store_row 28 _ _ rfl (w1.heap.size) _ rfl rfl _ _ z4 (infoRef' _) (by rw [bc_size, bc_size]) (bc_one _) ?_
        refine hK _ _ (below_row (Below.refl _ _) g4 _) ?_
        clear hK K
        have z5 := z5.row (w1.heap.size) (bc s.getLsbD) (by first | exact hne | exact hne.symm)
        have z4 := BAt.rowSame (g := s.getLsbD) z4
        have hcur := below_row hcur g4 (bc s.getLsbD)
        try (simp only [Act.put, List.setIfInBounds_toArray, List.set_cons_zero, List.set_cons_succ])
        refine' eager_write ?_ ?_ (fun K hK => ?_)
        rotate_left 1
        · simp only [List.getElem?_toArray, List.getElem?_cons_zero, List.getElem?_cons_succ]; exact rfl
        · exact rfl
        refine wp_store_row 28 _ _ rfl (w1.heap.size + 1) _ rfl rfl _ _ z5 (infoRef' _) (by rw [bc_size, bc_size]) (bc_one _) ?_
        refine hK _ _ (below_row (Below.refl _ _) g5 _) ?_
        clear hK K
        have z4 := z4.row (w1.heap.size + 1) (bc t.getLsbD) (by first | exact hne | exact hne.symm)
        have z5 := BAt.rowSame (g := t.getLsbD) z5
        have hcur := below_row hcur g5 (bc t.getLsbD)
        refine eager_done ?_
        try (simp only [Act.put, List.setIfInBounds_toArray, List.set_cons_zero, List.set_cons_succ])
        go_wp2_with fail
        go_meet
        exact ⟨_, _, rfl, rfl, z4, z5, hcur⟩
    · have g5 : w1.heap.size ≤ w1.heap.size := by have := hcur.size; first | exact this | (simp; done) | simpa using this
      refine' step_call ?_ ?_ (fun K hK => ?_)
      rotate_left 1
      · simp only [List.getElem?_toArray, List.getElem?_cons_zero, List.getElem?_cons_succ]; exact rfl
      · exact rfl
      go_simp
      refine hK _ _ ((Below.refl _ _).alloc (Nat.le_refl _) _) ?_
      have z5 := BAt.start (w1.drew) ZB bNone rfl (w1.heap.size) (by first | rfl | simp)
      have hcur := hcur.alloc hcur.size ZB
      clear hK K
      refine eager_fork ?_ ?_ 
      · refine' step_call ?_ ?_ (fun K hK => ?_)
        rotate_left 1
        · simp only [List.getElem?_toArray, List.getElem?_cons_zero, List.getElem?_cons_succ]; exact rfl
        · exact rfl
        go_simp
        refine (own1_any s _).mono ?_
        rintro e v2 ⟨rfl, hb⟩
        refine hK _ _ hb ?_
        have z5 := z5.below hb z5.lt
        have hcur := hcur.trans (hb.mono hcur.size)
        clear hb hK K
        refine eager_fork ?_ ?_ 
        · refine' step_call ?_ ?_ (fun K hK => ?_)
          rotate_left 1
          · simp only [List.getElem?_toArray, List.getElem?_cons_zero, List.getElem?_cons_succ]; exact rfl
          · exact rfl
          go_simp
          refine (own1_any t _).mono ?_
          rintro e v3 ⟨rfl, hb⟩
          refine hK _ _ hb ?_
          have z5 := z5.below hb z5.lt
          have hcur := hcur.trans (hb.mono hcur.size)
          clear hb hK K
          have g4 : w1.heap.size ≤ v3.heap.size := by have := hcur.size; first | exact this | (simp; done) | simpa using this
          have hne : w1.heap.size ≠ v3.heap.size := by have := z5.lt; first | exact Nat.ne_of_lt this | (simp at this; omega)
          refine' eager_call ?_ ?_ (fun K hK => ?_)
          rotate_left 1
          · simp only [List.getElem?_toArray, List.getElem?_cons_zero, List.getElem?_cons_succ]; exact rfl
          · exact rfl
          go_simp
          refine hK _ _ ((Below.refl _ _).alloc (Nat.le_refl _) _) ?_
          have z5 := z5.alloc ZB
          have z4 := BAt.start (v3) ZB bNone rfl (v3.heap.size) (by first | rfl | simp)
          have hcur := hcur.alloc hcur.size ZB
          clear hK K
          try (simp only [Act.put, List.setIfInBounds_toArray, List.set_cons_zero, List.set_cons_succ])
          refine' eager_write ?_ ?_ (fun K hK => ?_)
          rotate_left 1
          · simp only [List.getElem?_toArray, List.getElem?_cons_zero, List.getElem?_cons_succ]; exact rfl
          · exact rfl
          refine wp_store_row 28 _ _ rfl (v3.heap.size) _ rfl rfl _ _ z4 (infoRef' _) (by rw [bc_size, bc_size]) (bc_one _) ?_
          refine hK _ _ (below_row (Below.refl _ _) g4 _) ?_
          clear hK K
          have z5 := z5.row (v3.heap.size) (bc s.getLsbD) (by first | exact hne | exact hne.symm)
          have z4 := BAt.rowSame (g := s.getLsbD) z4
          have hcur := below_row hcur g4 (bc s.getLsbD)
          try (simp only [Act.put, List.setIfInBounds_toArray, List.set_cons_zero, List.set_cons_succ])
          refine' eager_write ?_ ?_ (fun K hK => ?_)
          rotate_left 1
          · simp only [List.getElem?_toArray, List.getElem?_cons_zero, List.getElem?_cons_succ]; exact rfl
          · exact rfl
          refine wp_store_row 28 _ _ rfl (w1.heap.size) _ rfl rfl _ _ z5 (infoRef' _) (by rw [bc_size, bc_size]) (bc_one _) ?_
          refine hK _ _ (below_row (Below.refl _ _) g5 _) ?_
          clear hK K
          have z4 := z4.row (w1.heap.size) (bc t.getLsbD) (by first | exact hne | exact hne.symm)
          have z5 := BAt.rowSame (g := t.getLsbD) z5
          have hcur := below_row hcur g5 (bc t.getLsbD)
          refine eager_done ?_
          try (simp only [Act.put, List.setIfInBounds_toArray, List.set_cons_zero, List.set_cons_succ])
          go_wp2_with fail
          go_meet
          exact ⟨_, _, rfl, rfl, z4, z5, hcur⟩
        · have g4 : w1.heap.size ≤ v2.heap.size := by have := hcur.size; first | exact this | (simp; done) | simpa using this
          have hne : w1.heap.size ≠ v2.heap.size := by have := z5.lt; first | exact Nat.ne_of_lt this | (simp at this; omega)
          refine' step_call ?_ ?_ (fun K hK => ?_)
          rotate_left 1
          · simp only [List.getElem?_toArray, List.getElem?_cons_zero, List.getElem?_cons_succ]; exact rfl
          · exact rfl
          go_simp
          refine hK _ _ ((Below.refl _ _).alloc (Nat.le_refl _) _) ?_
          have z5 := z5.alloc ZB
          have z4 := BAt.start (v2) ZB bNone rfl (v2.heap.size) (by first | rfl | simp)
          have hcur := hcur.alloc hcur.size ZB
          clear hK K
          refine' eager_call ?_ ?_ (fun K hK => ?_)
          rotate_left 1
          · simp only [List.getElem?_toArray, List.getElem?_cons_zero, List.getElem?_cons_succ]; exact rfl
          · exact rfl
          go_simp
          refine (own1_any t _).mono ?_
          rintro e v4 ⟨rfl, hb⟩
          refine hK _ _ hb ?_
          have z5 := z5.below hb z5.lt
          have z4 := z4.below hb z4.lt
          have hcur := hcur.trans (hb.mono hcur.size)
          clear hb hK K
          try (simp only [Act.put, List.setIfInBounds_toArray, List.set_cons_zero, List.set_cons_succ])
          refine' eager_write ?_ ?_ (fun K hK => ?_)
          rotate_left 1
          · simp only [List.getElem?_toArray, List.getElem?_cons_zero, List.getElem?_cons_succ]; exact rfl
          · exact rfl
          refine wp_store_row 28 _ _ rfl (v2.heap.size) _ rfl rfl _ _ z4 (infoRef' _) (by rw [bc_size, bc_size]) (bc_one _) ?_
          refine hK _ _ (below_row (Below.refl _ _) g4 _) ?_
          clear hK K
          have z5 := z5.row (v2.heap.size) (bc s.getLsbD) (by first | exact hne | exact hne.symm)
          have z4 := BAt.rowSame (g := s.getLsbD) z4
          have hcur := below_row hcur g4 (bc s.getLsbD)
          try (simp only [Act.put, List.setIfInBounds_toArray, List.set_cons_zero, List.set_cons_succ])
          refine' eager_write ?_ ?_ (fun K hK => ?_)
          rotate_left 1
          · simp only [List.getElem?_toArray, List.getElem?_cons_zero, List.getElem?_cons_succ]; exact rfl
          · exact rfl
          refine wp_store_row 28 _ _ rfl (w1.heap.size) _ rfl rfl _ _ z5 (infoRef' _) (by rw [bc_size, bc_size]) (bc_one _) ?_
          refine hK _ _ (below_row (Below.refl _ _) g5 _) ?_
          clear hK K
          have z4 := z4.row (w1.heap.size) (bc t.getLsbD) (by first | exact hne | exact hne.symm)
          have z5 := BAt.rowSame (g := t.getLsbD) z5
          have hcur := below_row hcur g5 (bc t.getLsbD)
          refine eager_done ?_
          try (simp only [Act.put, List.setIfInBounds_toArray, List.set_cons_zero, List.set_cons_succ])
          go_wp2_with fail
          go_meet
          exact ⟨_, _, rfl, rfl, z4, z5, hcur⟩
      · have g4 : w1.heap.size ≤ w1.heap.size + 1 := by have := hcur.size; first | exact this | (simp; done) | simpa using this
        have hne : w1.heap.size ≠ w1.heap.size + 1 := by have := z5.lt; first | exact Nat.ne_of_lt this | (simp at this; omega)
        refine' step_call ?_ ?_ (fun K hK => ?_)
        rotate_left 1
        · simp only [List.getElem?_toArray, List.getElem?_cons_zero, List.getElem?_cons_succ]; exact rfl
        · exact rfl
        go_simp
        refine hK _ _ ((Below.refl _ _).alloc (Nat.le_refl _) _) ?_
        have z5 := z5.alloc ZB
        have z4 := BAt.start ((w1.drew.alloc ZB)) ZB bNone rfl (w1.heap.size + 1) (by first | rfl | simp)
        have hcur := hcur.alloc hcur.size ZB
        clear hK K
        refine' eager_call ?_ ?_ (fun K hK => ?_)
        rotate_left 1
        · simp only [List.getElem?_toArray, List.getElem?_cons_zero, List.getElem?_cons_succ]; exact rfl
        · exact rfl
        go_simp
        refine (own1_any s _).mono ?_
        rintro e v3 ⟨rfl, hb⟩
        refine hK _ _ hb ?_
        have z5 := z5.below hb z5.lt
        have z4 := z4.below hb z4.lt
        have hcur := hcur.trans (hb.mono hcur.size)
        clear hb hK K
        refine' eager_call ?_ ?_ (fun K hK => ?_)
        rotate_left 1
        · simp only [List.getElem?_toArray, List.getElem?_cons_zero, List.getElem?_cons_succ]; exact rfl
        · exact rfl
        go_simp
        refine (own1_any t _).mono ?_
        rintro e v4 ⟨rfl, hb⟩
        refine hK _ _ hb ?_
        have z5 := z5.below hb z5.lt
        have z4 := z4.below hb z4.lt
        have hcur := hcur.trans (hb.mono hcur.size)
        clear hb hK K
        try (simp only [Act.put, List.setIfInBounds_toArray, List.set_cons_zero, List.set_cons_succ])
        refine' eager_write ?_ ?_ (fun K hK => ?_)
        rotate_left 1
        · simp only [List.getElem?_toArray, List.getElem?_cons_zero, List.getElem?_cons_succ]; exact rfl
        · exact rfl
        refine wp_store_row 28 _ _ rfl (w1.heap.size + 1) _ rfl rfl _ _ z4 (infoRef' _) (by rw [bc_size, bc_size]) (bc_one _) ?_
        refine hK _ _ (below_row (Below.refl _ _) g4 _) ?_
        clear hK K
        have z5 := z5.row (w1.heap.size + 1) (bc s.getLsbD) (by first | exact hne | exact hne.symm)
        have z4 := BAt.rowSame (g := s.getLsbD) z4
        have hcur := below_row hcur g4 (bc s.getLsbD)
        try (simp only [Act.put, List.setIfInBounds_toArray, List.set_cons_zero, List.set_cons_succ])
        refine' eager_write ?_ ?_ (fun K hK => ?_)
        rotate_left 1
        · simp only [List.getElem?_toArray, List.getElem?_cons_zero, List.getElem?_cons_succ]; exact rfl
        · exact rfl
        refine wp_store_row 28 _ _ rfl (w1.heap.size) _ rfl rfl _ _ z5 (infoRef' _) (by rw [bc_size, bc_size]) (bc_one _) ?_
        refine hK _ _ (below_row (Below.refl _ _) g5 _) ?_
        clear hK K
        have z4 := z4.row (w1.heap.size) (bc t.getLsbD) (by first | exact hne | exact hne.symm)
        have z5 := BAt.rowSame (g := t.getLsbD) z5
        have hcur := below_row hcur g5 (bc t.getLsbD)
        refine eager_done ?_
        try (simp only [Act.put, List.setIfInBounds_toArray, List.set_cons_zero, List.set_cons_succ])
        go_wp2_with fail
        go_meet
        exact ⟨_, _, rfl, rfl, z4, z5, hcur⟩
  case rest =>
    obtain ⟨BX, BY, rfl, rfl, hx, hy, hbc⟩ := hcut
    have hA := setAt_keep hA1 hbc hzA
    have hB := setAt_keep hB1 hbc hzB
    have hTc := tab_below HT1.out hbc (tab_pos HT1.out)
    have hlc := bytesAt_keep HL1.out hbc
    have BC := B1.trans (hbc.mono B1.size)
    clear la0 la1 la2 la3 lb0 lb1 lb2 lb3 hcur hne1 hA1 hB1 hzA hzB hbc B1 HT1 HL1 hz
    have hzA := setAt_lt hA
    have hzB := setAt_lt hB
    have hzx := hx.lt
    have hzy := hy.lt
    have hzT := tab_pos hTc
    have la0 := fun (L : Later wc) => (setAt_keep hA L.ok hzA).cell 0 (by decide)
    have lb0 := fun (L : Later wc) => (setAt_keep hB L.ok hzB).cell 0 (by decide)
    have la1 := fun (L : Later wc) => (setAt_keep hA L.ok hzA).cell 1 (by decide)
    have lb1 := fun (L : Later wc) => (setAt_keep hB L.ok hzB).cell 1 (by decide)
    have la2 := fun (L : Later wc) => (setAt_keep hA L.ok hzA).cell 2 (by decide)
    have lb2 := fun (L : Later wc) => (setAt_keep hB L.ok hzB).cell 2 (by decide)
    have la3 := fun (L : Later wc) => (setAt_keep hA L.ok hzA).cell 3 (by decide)
    have lb3 := fun (L : Later wc) => (setAt_keep hB L.ok hzB).cell 3 (by decide)
    have lx := fun (L : Later wc) => (hx.below L.ok hzx).cell lo hlo
    have hk1 := fun (L : Later wc) => of_any a n cap l L.val (bytesAt_keep hlc L.ok)
    have hk2 := fun (L : Later wc) => refOf_any a n cap l L.val (bytesAt_keep hlc L.ok)
    have hk3 := fun (L : Later wc) => cmp_any s t L.val (tab_below hTc L.ok hzT)
    have e1 := eql_true (setOf l).getLsbD (fun j => decide (j ∈ l)) (fun j hj => setOf_bit l j hj)
    have e2 := eql_true (setOf (upTo lo hi)).getLsbD (fun i => decide (lo ≤ i) && decide (i ≤ hi)) (fun j hj => by rw [setOf_bit _ _ hj, ← Bool.decide_and, decide_eq_decide, upTo_mem])
    have e3 := eql_true (s ||| t).getLsbD (fun i => s.getLsbD i || t.getLsbD i) (fun j _ => BitVec.getLsbD_or)
    have e4 := eql_true (s &&& t).getLsbD (fun i => s.getLsbD i && t.getLsbD i) (fun j _ => BitVec.getLsbD_and)
    have e5 := eql_true (~~~s).getLsbD (fun i => !s.getLsbD i) (fun j hj => by simp [hj])
    have e6 := eql_true (s &&& ~~~t).getLsbD (fun i => s.getLsbD i && !t.getLsbD i) (fun j hj => by simp [hj])
    have hx' := Lib.hid hx
    have hy' := Lib.hid hy
    have hA' := Lib.hid hA
    have hB' := Lib.hid hB
    have hT' := Lib.hid hTc
    have hrl := range_ref lo hi
    clear hx hy hA hB hTc hlc
    go_upto_region 6 with fail
    simp only [List.append]
    have hne := Later.nonempty wc
    refine wp_region_later (W0 := wc) (Below.refl _ _) (by kernel_rfl) (by as_aux_lemma => kernel_rfl) ?_
    iterate 12 (go_big_quiet_step ((first
      | exact Later.calls (own1_any _ _)
      | exact Later.calls (hk1 _)
      | exact Later.calls (hk2 _)
      | exact Later.calls (hk3 _)
      | exact Later.calls (range_any lo hi hlo hhi _)
      | exact Later.calls (range_ref lo hi _ _ rfl rfl hhi _)
      | exact Later.calls (or_any _ _ _)
      | exact Later.calls (refOr_any _ _ _)
      | exact Later.calls (and_any _ _ _)
      | exact Later.calls (refAnd_any _ _ _)
      | exact Later.calls (not_any _ _)
      | exact Later.calls (refNot_any _ _)
      | exact Later.calls (minus_any _ _ _)
      | exact Later.calls (refCmp_any s t _)
      | exact Later.calls (has_any _ lo hlo _))))
    as_aux_lemma =>
      iterate 11 (go_big_quiet_step ((first
        | exact Later.calls (own1_any _ _)
        | exact Later.calls (hk1 _)
        | exact Later.calls (hk2 _)
        | exact Later.calls (hk3 _)
        | exact Later.calls (range_any lo hi hlo hhi _)
        | exact Later.calls (range_ref lo hi _ _ rfl rfl hhi _)
        | exact Later.calls (or_any _ _ _)
        | exact Later.calls (refOr_any _ _ _)
        | exact Later.calls (and_any _ _ _)
        | exact Later.calls (refAnd_any _ _ _)
        | exact Later.calls (not_any _ _)
        | exact Later.calls (refNot_any _ _)
        | exact Later.calls (minus_any _ _ _)
        | exact Later.calls (refCmp_any s t _)
        | exact Later.calls (has_any _ lo hlo _))))
      go_big_quiet_want
      refine quiet_load_ref _ rfl _ rfl s.getLsbD (fun w' hw' => by obtain ⟨L, rfl⟩ := hw'; exact hx'.out.below L.ok hzx) ?_
      go_big_quiet_on
      simp only [Act.put, List.setIfInBounds_toArray, List.set_cons_zero, List.set_cons_succ]
      go_big_quiet_want
      refine quiet_load_ref _ rfl _ rfl t.getLsbD (fun w' hw' => by obtain ⟨L, rfl⟩ := hw'; exact hy'.out.below L.ok hzy) ?_
      go_big_quiet_on
      simp only [Act.put, List.setIfInBounds_toArray, List.set_cons_zero, List.set_cons_succ]
      as_aux_lemma =>
        iterate 8 (go_big_quiet_step ((first
          | exact Later.calls (own1_any _ _)
          | exact Later.calls (hk1 _)
          | exact Later.calls (hk2 _)
          | exact Later.calls (hk3 _)
          | exact Later.calls (range_any lo hi hlo hhi _)
          | exact Later.calls (range_ref lo hi _ _ rfl rfl hhi _)
          | exact Later.calls (or_any _ _ _)
          | exact Later.calls (refOr_any _ _ _)
          | exact Later.calls (and_any _ _ _)
          | exact Later.calls (refAnd_any _ _ _)
          | exact Later.calls (not_any _ _)
          | exact Later.calls (refNot_any _ _)
          | exact Later.calls (minus_any _ _ _)
          | exact Later.calls (refCmp_any s t _)
          | exact Later.calls (has_any _ lo hlo _))))
        go_big_quiet_want
        refine quiet_load_ref _ rfl _ rfl s.getLsbD (fun w' hw' => by obtain ⟨L, rfl⟩ := hw'; exact hx'.out.below L.ok hzx) ?_
        go_big_quiet_on
        simp only [Act.put, List.setIfInBounds_toArray, List.set_cons_zero, List.set_cons_succ]
        go_big_quiet_want
        refine quiet_load_ref _ rfl _ rfl t.getLsbD (fun w' hw' => by obtain ⟨L, rfl⟩ := hw'; exact hy'.out.below L.ok hzy) ?_
        go_big_quiet_on
        simp only [Act.put, List.setIfInBounds_toArray, List.set_cons_zero, List.set_cons_succ]
        as_aux_lemma =>
          iterate 7 (go_big_quiet_step ((first
            | exact Later.calls (own1_any _ _)
            | exact Later.calls (hk1 _)
            | exact Later.calls (hk2 _)
            | exact Later.calls (hk3 _)
            | exact Later.calls (range_any lo hi hlo hhi _)
            | exact Later.calls (range_ref lo hi _ _ rfl rfl hhi _)
            | exact Later.calls (or_any _ _ _)
            | exact Later.calls (refOr_any _ _ _)
            | exact Later.calls (and_any _ _ _)
            | exact Later.calls (refAnd_any _ _ _)
            | exact Later.calls (not_any _ _)
            | exact Later.calls (refNot_any _ _)
            | exact Later.calls (minus_any _ _ _)
            | exact Later.calls (refCmp_any s t _)
            | exact Later.calls (has_any _ lo hlo _))))
          go_big_quiet_want
          refine quiet_load_ref _ rfl _ rfl s.getLsbD (fun w' hw' => by obtain ⟨L, rfl⟩ := hw'; exact hx'.out.below L.ok hzx) ?_
          go_big_quiet_on
          simp only [Act.put, List.setIfInBounds_toArray, List.set_cons_zero, List.set_cons_succ]
          iterate 8 (go_big_quiet_step ((first
            | exact Later.calls (own1_any _ _)
            | exact Later.calls (hk1 _)
            | exact Later.calls (hk2 _)
            | exact Later.calls (hk3 _)
            | exact Later.calls (range_any lo hi hlo hhi _)
            | exact Later.calls (range_ref lo hi _ _ rfl rfl hhi _)
            | exact Later.calls (or_any _ _ _)
            | exact Later.calls (refOr_any _ _ _)
            | exact Later.calls (and_any _ _ _)
            | exact Later.calls (refAnd_any _ _ _)
            | exact Later.calls (not_any _ _)
            | exact Later.calls (refNot_any _ _)
            | exact Later.calls (minus_any _ _ _)
            | exact Later.calls (refCmp_any s t _)
            | exact Later.calls (has_any _ lo hlo _))))
          as_aux_lemma =>
            go_big_quiet_want
            refine quiet_load_ref _ rfl _ rfl s.getLsbD (fun w' hw' => by obtain ⟨L, rfl⟩ := hw'; exact hx'.out.below L.ok hzx) ?_
            go_big_quiet_on
            simp only [Act.put, List.setIfInBounds_toArray, List.set_cons_zero, List.set_cons_succ]
            go_big_quiet_want
            refine quiet_load_ref _ rfl _ rfl t.getLsbD (fun w' hw' => by obtain ⟨L, rfl⟩ := hw'; exact hy'.out.below L.ok hzy) ?_
            go_big_quiet_on
            simp only [Act.put, List.setIfInBounds_toArray, List.set_cons_zero, List.set_cons_succ]
            iterate 8 (go_big_quiet_step ((first
              | exact Later.calls (own1_any _ _)
              | exact Later.calls (hk1 _)
              | exact Later.calls (hk2 _)
              | exact Later.calls (hk3 _)
              | exact Later.calls (range_any lo hi hlo hhi _)
              | exact Later.calls (range_ref lo hi _ _ rfl rfl hhi _)
              | exact Later.calls (or_any _ _ _)
              | exact Later.calls (refOr_any _ _ _)
              | exact Later.calls (and_any _ _ _)
              | exact Later.calls (refAnd_any _ _ _)
              | exact Later.calls (not_any _ _)
              | exact Later.calls (refNot_any _ _)
              | exact Later.calls (minus_any _ _ _)
              | exact Later.calls (refCmp_any s t _)
              | exact Later.calls (has_any _ lo hlo _))))
            as_aux_lemma =>
              go_big_quiet_want
              refine quiet_load_ref _ rfl _ rfl s.getLsbD (fun w' hw' => by obtain ⟨L, rfl⟩ := hw'; exact hx'.out.below L.ok hzx) ?_
              go_big_quiet_on
              simp only [Act.put, List.setIfInBounds_toArray, List.set_cons_zero, List.set_cons_succ]
              go_big_quiet_want
              refine quiet_load_ref _ rfl _ rfl t.getLsbD (fun w' hw' => by obtain ⟨L, rfl⟩ := hw'; exact hy'.out.below L.ok hzy) ?_
              go_big_quiet_on
              simp only [Act.put, List.setIfInBounds_toArray, List.set_cons_zero, List.set_cons_succ]
              iterate 4 (go_big_quiet_step ((first
                | exact Later.calls (own1_any _ _)
                | exact Later.calls (hk1 _)
                | exact Later.calls (hk2 _)
                | exact Later.calls (hk3 _)
                | exact Later.calls (range_any lo hi hlo hhi _)
                | exact Later.calls (range_ref lo hi _ _ rfl rfl hhi _)
                | exact Later.calls (or_any _ _ _)
                | exact Later.calls (refOr_any _ _ _)
                | exact Later.calls (and_any _ _ _)
                | exact Later.calls (refAnd_any _ _ _)
                | exact Later.calls (not_any _ _)
                | exact Later.calls (refNot_any _ _)
                | exact Later.calls (minus_any _ _ _)
                | exact Later.calls (refCmp_any s t _)
                | exact Later.calls (has_any _ lo hlo _))))
              as_aux_lemma =>
                repeat (go_big_quiet_step ((first
                  | exact Later.calls (own1_any _ _)
                  | exact Later.calls (hk1 _)
                  | exact Later.calls (hk2 _)
                  | exact Later.calls (hk3 _)
                  | exact Later.calls (range_any lo hi hlo hhi _)
                  | exact Later.calls (range_ref lo hi _ _ rfl rfl hhi _)
                  | exact Later.calls (or_any _ _ _)
                  | exact Later.calls (refOr_any _ _ _)
                  | exact Later.calls (and_any _ _ _)
                  | exact Later.calls (refAnd_any _ _ _)
                  | exact Later.calls (not_any _ _)
                  | exact Later.calls (refNot_any _ _)
                  | exact Later.calls (minus_any _ _ _)
                  | exact Later.calls (refCmp_any s t _)
                  | exact Later.calls (has_any _ lo hlo _))))
                refine wpQuiet_nil ?_
                intro w' hw'
                obtain ⟨L, rfl⟩ := hw'
                have hb2 : Below wc.heap.size wc L.val := L.ok
                generalize L.val = w2 at hb2
                have hA2 := setAt_keep hA'.out hb2 hzA
                have hB2 := setAt_keep hB'.out hb2 hzB
                have hx2 := hx'.out.below hb2 hzx
                have hT2 := tab_below hT'.out hb2 hzT
                have B2 := BC.trans (hb2.mono BC.size)
                have HT2 := Lib.hid hT2
                clear la0 la1 la2 la3 lb0 lb1 lb2 lb3 lx hk1 hk2 hk3 e1 e2 e3 e4 e5 e6 hrl hne hA' hB' hT' hy' hx' hb2 hzA hzB hzx hzy hzT hT2 BC
                have hlist := refList_at s
                have hlist2 := list_at s
                have hleast := least_any s
                have hlen := len_any s
                have hE : ∀ x ∈ elems s, x < 256 := fun x hx => ((mem_elems s x).1 hx).1
                obtain ⟨m, hm⟩ : ∃ m, m = elems s := ⟨_, rfl⟩
                have hruns := runs_at s
                have hrr := refRuns_at s
                rw [← hm] at hlist hlist2 hleast hlen hE hruns hrr
                obtain ⟨rs, hrs⟩ : ∃ rs, rs = runsOf m := ⟨_, rfl⟩
                rw [← hrs] at hruns hrr
                clear hm hrs
                have sl0 := hA2.cell 0 (by decide)
                have sl1 := hA2.cell 1 (by decide)
                have sl2 := hA2.cell 2 (by decide)
                have sl3 := hA2.cell 3 (by decide)
                go_wp2_with (first | (refine wpList_load_row rfl 28 _ rfl BX rfl _ _ _ _ hx2 Tryd.underlying28 rfl (infoRef' _) ?_))
                refine (hlist _).mono ?_
                rintro e w3 ⟨am, cm, rfl, hb3, hkm⟩
                have hA3 := setAt_keep hA2 hb3 (setAt_lt hA2)
                have hx3 := hx2.below hb3 hx2.lt
                have HT3 := Lib.hid (tab_below HT2.out hb3 (tab_pos HT2.out))
                have B3 := B2.trans (hb3.mono B2.size)
                clear sl0 sl1 sl2 sl3 hA2 hx2 HT2 B2 hb3
                have sl0 := hA3.cell 0 (by decide)
                have sl1 := hA3.cell 1 (by decide)
                have sl2 := hA3.cell 2 (by decide)
                have sl3 := hA3.cell 3 (by decide)
                go_wp2_with fail
                refine (hleast _ HT3.out).mono ?_
                rintro e w4 ⟨rfl, hb4⟩
                have hA4 := setAt_keep hA3 hb4 (setAt_lt hA3)
                have hx4 := hx3.below hb4 hx3.lt
                have HT4 := Lib.hid (tab_below HT3.out hb4 (tab_pos HT3.out))
                have hkm4 := fun w2 (h : Below w4.heap.size w4 w2) => hkm w2 (hb4.trans (h.mono hb4.size))
                have B4 := B3.trans (hb4.mono B3.size)
                clear sl0 sl1 sl2 sl3 hA3 hx3 HT3 B3 hb4 hkm
                go_upto_region 10 with fail
                have hzA := setAt_lt hA4
                have hzx := hx4.lt
                have la0 := fun (L : Later w4) => (setAt_keep hA4 L.ok hzA).cell 0 (by decide)
                have la1 := fun (L : Later w4) => (setAt_keep hA4 L.ok hzA).cell 1 (by decide)
                have la2 := fun (L : Later w4) => (setAt_keep hA4 L.ok hzA).cell 2 (by decide)
                have la3 := fun (L : Later w4) => (setAt_keep hA4 L.ok hzA).cell 3 (by decide)
                have hne := Later.nonempty w4
                have hcur := (Below.refl w4.heap.size w4).drew
                refine wp_region_eager (.plain 0 (.plain 2 (.sole 1 (.sole 3 (.plain 4 (.plain 5 .done)))))) (W0 := w4) (Below.refl _ _) (by kernel_rfl) (by as_aux_lemma => kernel_rfl) (fun c a d v w h => by cases d <;> exact h) ?_
                refine' eager_want ?_ ?_ (fun K hK => ?_)
                rotate_left 1
                · simp only [List.getElem?_toArray, List.getElem?_cons_zero, List.getElem?_cons_succ]; exact rfl
                · exact rfl
                go_big_quiet_op
                refine hK _ ?_
                clear hK K
                refine' eager_want ?_ ?_ (fun K hK => ?_)
                rotate_left 1
                · simp only [List.getElem?_toArray, List.getElem?_cons_zero, List.getElem?_cons_succ]; exact rfl
                · exact rfl
                refine quiet_load_ref _ rfl _ rfl s.getLsbD (fun w' hw' => by obtain ⟨L, rfl⟩ := hw'; exact hx4.below L.ok hzx) ?_
                refine hK _ ?_
                clear hK K
                simp only [Act.put, List.setIfInBounds_toArray, List.set_cons_zero, List.set_cons_succ]
                refine' eager_call ?_ ?_ (fun K hK => ?_)
                rotate_left 1
                · simp only [List.getElem?_toArray, List.getElem?_cons_zero, List.getElem?_cons_succ]; exact rfl
                · exact rfl
                go_simp
                refine (hruns _ (tab_drew HT4.out)).mono ?_
                rintro e w5 ⟨ar, cr, rfl, hb5, hrl, hrc⟩
                refine hK _ _ hb5 ?_
                have hcur := hcur.trans (hb5.mono hcur.size)
                clear hK K
                refine' eager_call ?_ ?_ (fun K hK => ?_)
                rotate_left 1
                · simp only [List.getElem?_toArray, List.getElem?_cons_zero, List.getElem?_cons_succ]; exact rfl
                · exact rfl
                go_simp
                refine (hrr _).mono ?_
                rintro e w6 ⟨aw, cw, rfl, hb6, _, hwc⟩
                refine hK _ _ hb6 ?_
                have hcur := hcur.trans (hb6.mono hcur.size)
                clear hK K
                refine' eager_want ?_ ?_ (fun K hK => ?_)
                rotate_left 1
                · simp only [List.getElem?_toArray, List.getElem?_cons_zero, List.getElem?_cons_succ]; exact rfl
                · exact rfl
                go_big_quiet_op
                refine hK _ ?_
                clear hK K
                refine' eager_want ?_ ?_ (fun K hK => ?_)
                rotate_left 1
                · simp only [List.getElem?_toArray, List.getElem?_cons_zero, List.getElem?_cons_succ]; exact rfl
                · exact rfl
                go_big_quiet_op
                refine hK _ ?_
                clear hK K
                refine eager_done ?_
                have hA6 := setAt_keep hA4 hcur hzA
                have HT6 := Lib.hid (tab_below HT4.out hcur (tab_pos HT4.out))
                have hkm6 := fun w2 (h : Below w6.heap.size w6 w2) => hkm4 w2 (hcur.trans (h.mono hcur.size))
                have B6 := B4.trans (hcur.mono B4.size)
                have hrc6 : ∀ j, j < rs.length → ∃ g, ar = some ⟨g, 0, none⟩ ∧ rs.length ≤ cr ∧ g < w6.heap.size ∧ w6.cell? ⟨g, j * 2, none⟩ = some (.int .u8 ((rs.getD j (0, 0)).1 : Int)) ∧ w6.cell? ⟨g, j * 2 + 1, none⟩ = some (.int .u8 ((rs.getD j (0, 0)).2 : Int)) := by
                  intro j hj
                  obtain ⟨g, e, _, h1, h2, h3, h4⟩ := hrc j hj
                  exact ⟨g, e, h2, Nat.lt_of_lt_of_le h1 hb6.size, by rw [hb6.cell (p := ⟨g, j * 2, none⟩) h1]; exact h3, by rw [hb6.cell (p := ⟨g, j * 2 + 1, none⟩) h1]; exact h4⟩
                have hwc6 : ∀ j, j < rs.length → ∃ g, aw = some ⟨g, 0, none⟩ ∧ rs.length ≤ cw ∧ g < w6.heap.size ∧ w6.cell? ⟨g, j * 2, none⟩ = some (.int .u8 ((rs.getD j (0, 0)).1 : Int)) ∧ w6.cell? ⟨g, j * 2 + 1, none⟩ = some (.int .u8 ((rs.getD j (0, 0)).2 : Int)) := by
                  intro j hj
                  obtain ⟨g, e, _, h1, h2, h3, h4⟩ := hwc j hj
                  exact ⟨g, e, h2, h1, h3, h4⟩
                clear la0 la1 la2 la3 hne hcur hA4 hx4 HT4 hkm4 B4 hrc hwc hb5 hb6 hzA hzx
                go_upto_region 11 with fail
                have hzA := setAt_lt hA6
                obtain ⟨N, hN⟩ : ∃ N, N = m.length := ⟨_, rfl⟩
                obtain ⟨x0, hx0⟩ : ∃ x, x = m.head?.getD 0 := ⟨_, rfl⟩
                obtain ⟨ok, hok⟩ : ∃ b, b = !m.isEmpty := ⟨_, rfl⟩
                have hpos : decide ((N : Int) > 0) = ok := by
                  rw [hok, hN]; cases m <;> simp
                have hcell : ok = true → ∃ g off, am = some ⟨g, off, none⟩ ∧ N ≤ cm ∧ 0 < N ∧ ∀ w2, Below w6.heap.size w6 w2 → w2.cell? ⟨g, off, none⟩ = some (.int .u8 (x0 : Int)) := by
                  intro h
                  have hN0 : 0 < m.length := by cases m with | nil => simp [hok] at h | cons _ _ => simp
                  have hx : m.getD 0 0 = x0 := by rw [hx0]; cases m <;> rfl
                  obtain ⟨_, _, _, h0 | ⟨g, off, e, hc, _, _⟩⟩ := hkm6 w6 (Below.refl _ _)
                  · omega
                  · refine ⟨g, off, e, by omega, by omega, fun w2 h2 => ?_⟩
                    obtain ⟨_, _, _, h0 | ⟨g', off', e', _, _, hcc⟩⟩ := hkm6 w2 h2
                    · omega
                    · rw [e] at e'
                      cases e'
                      have := hcc 0 hN0
                      rw [hx] at this
                      exact this
                have hkN : ∀ w2, Below w6.heap.size w6 w2 → BytesAt w2 am N cm m := by rw [hN]; exact hkm6
                try rw [← hN]
                try rw [← hx0]
                try rw [← hok]
                have hlenN : ∀ w, Calls Tryd.prog 25 #[SV s] w fun e w' => e = .returned (.int .i64 N) ∧ Below w.heap.size w w' := by rw [hN]; exact hlen
                have hlN : ∀ w, TabAt 1 Lib.deBruijn64tab w → Calls Tryd.prog 24 #[SV s] w fun e w' => ∃ a c, e = .returned (.slice a N c) ∧ Below w.heap.size w w' ∧ ∀ w2, Below w'.heap.size w' w2 → BytesAt w2 a N c m := by rw [hN]; exact hlist2
                clear hkm6 hlen hlist2 hlist hruns hrr hleast hE hN hx0 hok
                obtain ⟨R, hR⟩ : ∃ R, R = rs.length := ⟨_, rfl⟩
                rw [← hR] at hrc6 hwc6 hrl
                try rw [← hR]
                clear hR
                go_cut [150] from 114 to 149 (fun v wx => v = .bool false ∧ Below w6.heap.size w6 wx)
                case first =>
                  have hok : ok = decide (0 < N) := by rw [← hpos]; simp
                  rcases Nat.eq_zero_or_pos N with hN0 | hN0
                  case' inl => (subst hN0; obtain rfl : ok = false := hok)
                  case' inr => (obtain rfl : ok = true := by rw [hok]; exact decide_eq_true hN0)
                  all_goals
                    try clear hok
                    have hcur := (Below.refl w6.heap.size w6).drew
                    have hne := Later.nonempty w6
                    have la0 := fun (L : Later w6) => (setAt_keep hA6 L.ok hzA).cell 0 (by decide)
                    have la1 := fun (L : Later w6) => (setAt_keep hA6 L.ok hzA).cell 1 (by decide)
                    have la2 := fun (L : Later w6) => (setAt_keep hA6 L.ok hzA).cell 2 (by decide)
                    have la3 := fun (L : Later w6) => (setAt_keep hA6 L.ok hzA).cell 3 (by decide)
                    refine wp_region_eager (.plain 0 (.plain 3 (.plain 4 (.sole 1 (.plain 2 (.plain 5 (.plain 6 (.plain 7 (.plain 9 (.plain 10 (.sole 8 (.plain 11 (.plain 12 (.plain 13 (.plain 14 (.plain 15 (.plain 16 (.plain 17 (.plain 18 (.plain 19 (.plain 20 (.plain 21 (.plain 22 (.plain 23 (.plain 24 (.plain 25 (.plain 26 (.plain 27 (.plain 28 (.plain 29 (.plain 30 (.plain 31 (.plain 32 (.plain 33 (.plain 34 (.plain 35 (.plain 36 .done))))))))))))))))))))))))))))))))))))) (W0 := w6) (Below.refl _ _) (by kernel_rfl) (by as_aux_lemma => kernel_rfl) (fun c a d v w h => by cases d <;> exact h) ?_
                    refine' eager_want ?_ ?_ (fun K hK => ?_)
                    rotate_left 1
                    · simp only [List.getElem?_toArray, List.getElem?_cons_zero, List.getElem?_cons_succ]; exact rfl
                    · exact rfl
                    go_big_quiet_op
                    refine hK _ ?_
                    clear hK K
                    refine' eager_want ?_ ?_ (fun K hK => ?_)
                    rotate_left 1
                    · simp only [List.getElem?_toArray, List.getElem?_cons_zero, List.getElem?_cons_succ]; exact rfl
                    · exact rfl
                    go_big_quiet_op
                    refine hK _ ?_
                    clear hK K
                    refine' eager_want ?_ ?_ (fun K hK => ?_)
                    rotate_left 1
                    · simp only [List.getElem?_toArray, List.getElem?_cons_zero, List.getElem?_cons_succ]; exact rfl
                    · exact rfl
                    refine quiet_string _ rfl _ _ _ rfl m (fun w' hw' => by obtain ⟨L, rfl⟩ := hw'; exact hkN _ L.ok) ?_
                    refine hK _ ?_
                    clear hK K
                    simp only [Act.put, List.setIfInBounds_toArray, List.set_cons_zero, List.set_cons_succ]
                    refine' eager_call_new ?_ ?_ (fun K hK => ?_)
                    rotate_left 1
                    · simp only [List.getElem?_toArray, List.getElem?_cons_zero, List.getElem?_cons_succ]; exact rfl
                    · exact rfl
                    go_simp
                    refine (hlN _ (tab_drew HT6.out)).mono ?_
                    rintro e w7 ⟨a7, c7, rfl, hb7, hk7⟩
                    refine hK _ _ hb7 ?_
                    have hcur := hcur.trans (hb7.mono hcur.size)
                    clear hK K la0 la1 la2 la3 hne hb7
                    have hA7 := setAt_keep hA6 hcur hzA
                    have hzA7 := setAt_lt hA7
                    have hne := Later.nonempty w7
                    have la0 := fun (L : Later w7) => (setAt_keep hA7 L.ok hzA7).cell 0 (by decide)
                    have la1 := fun (L : Later w7) => (setAt_keep hA7 L.ok hzA7).cell 1 (by decide)
                    have la2 := fun (L : Later w7) => (setAt_keep hA7 L.ok hzA7).cell 2 (by decide)
                    have la3 := fun (L : Later w7) => (setAt_keep hA7 L.ok hzA7).cell 3 (by decide)
                    refine' eager_want ?_ ?_ (fun K hK => ?_)
                    rotate_left 1
                    · simp only [List.getElem?_toArray, List.getElem?_cons_zero, List.getElem?_cons_succ]; exact rfl
                    · exact rfl
                    refine quiet_string _ rfl _ _ _ rfl m (fun w' hw' => by obtain ⟨L, rfl⟩ := hw'; exact hk7 _ L.ok) ?_
                    refine hK _ ?_
                    clear hK K
                    simp only [Act.put, List.setIfInBounds_toArray, List.set_cons_zero, List.set_cons_succ]
                    have hk7' := hk7
                    clear hk7 hk7'
                    first
                      | (obtain ⟨g, off, rfl, hNc, _, hc⟩ := hcell rfl
                         have hc7 := fun (L : Later w7) => hc L.val (hcur.trans (L.ok.mono hcur.size))
                         clear hc)
                      | skip
                    clear hcell hkN
                    repeat (first
                      | (refine' eager_skip ?_ ?_ ?_
                         rotate_left 1
                         · simp only [List.getElem?_toArray, List.getElem?_cons_zero, List.getElem?_cons_succ]; exact rfl
                         · exact rfl
                         simp only [Act.put, List.setIfInBounds_toArray, List.set_cons_zero, List.set_cons_succ])
                      | (refine' eager_want ?_ ?_ (fun K hK => ?_)
                         rotate_left 1
                         · simp only [List.getElem?_toArray, List.getElem?_cons_zero, List.getElem?_cons_succ]; exact rfl
                         · exact rfl
                         go_big_quiet_op
                         refine hK _ ?_
                         clear hK K))
                    refine' eager_call ?_ ?_ (fun K hK => ?_)
                    rotate_left 1
                    · simp only [List.getElem?_toArray, List.getElem?_cons_zero, List.getElem?_cons_succ]; exact rfl
                    · exact rfl
                    go_simp
                    refine (hlenN _).mono ?_
                    rintro e w8 ⟨rfl, hb8⟩
                    refine hK _ _ hb8 ?_
                    have hcur := hcur.trans (hb8.mono hcur.size)
                    clear hK K
                    repeat (first
                      | (refine' eager_skip ?_ ?_ ?_
                         rotate_left 1
                         · simp only [List.getElem?_toArray, List.getElem?_cons_zero, List.getElem?_cons_succ]; exact rfl
                         · exact rfl
                         simp only [Act.put, List.setIfInBounds_toArray, List.set_cons_zero, List.set_cons_succ])
                      | (refine' eager_want ?_ ?_ (fun K hK => ?_)
                         rotate_left 1
                         · simp only [List.getElem?_toArray, List.getElem?_cons_zero, List.getElem?_cons_succ]; exact rfl
                         · exact rfl
                         go_big_quiet_op
                         refine hK _ ?_
                         clear hK K))
                    refine eager_done ?_
                    try (simp only [Act.put, List.setIfInBounds_toArray, List.set_cons_zero, List.set_cons_succ])
                    go_wp2_with fail
                    go_meet
                    exact ⟨rfl, hcur⟩
                case rest =>
                  obtain ⟨rfl, hbx⟩ := hcut
                  have BX6 := B6.trans (hbx.mono B6.size)
                  clear hlenN hlN hkN hcell HT6 hA6 hzA B6
                  go_wp2_with fail
                  go_loopw [18] (fun ii wr => ∃ k : Nat, k ≤ R ∧ ii = .int .i64 k ∧ Below wc.heap.size wc wr) (fun ii _ => R - (intOf ii).toNat)
                  case atStart => exact ⟨0, by omega, rfl, Below.refl _ _⟩
                  case round =>
                    obtain ⟨k, hk, rfl, hbr⟩ := hrel
                    by_cases hkR : k < R
                    · have hd : decide ((k : Int) < R) = true := by simp; omega
                      have hki : (k : Int) < R := by omega
                      obtain ⟨g1, rfl, hcap1, hg1, c1, c2⟩ := hrc6 k hkR
                      obtain ⟨g2, rfl, hcap2, hg2, d1, d2⟩ := hwc6 k hkR
                      have hb6r := hbx.trans (hbr.mono hbx.size)
                      obtain ⟨x, hx⟩ : ∃ x, x = (rs.getD k (0, 0)).1 := ⟨_, rfl⟩
                      obtain ⟨y, hy⟩ : ∃ y, y = (rs.getD k (0, 0)).2 := ⟨_, rfl⟩
                      rw [← hb6r.cell (p := ⟨g1, k * 2, none⟩) hg1, ← hx] at c1
                      rw [← hb6r.cell (p := ⟨g1, k * 2 + 1, none⟩) hg1, ← hy] at c2
                      rw [← hb6r.cell (p := ⟨g2, k * 2, none⟩) hg2, ← hx] at d1
                      rw [← hb6r.cell (p := ⟨g2, k * 2 + 1, none⟩) hg2, ← hy] at d2
                      clear hx hy hrc6 hwc6 hb6r
                      go_wp2_with fail
                      go_quiet (fail)
                      go_wp2_with fail
                      go_roundw
                      case rel => exact ⟨k + 1, by omega, by go_num, below_drewN hbr _⟩
                      case measure => simp [intOf]; omega
                    · have hd : decide ((k : Int) < R) = false := by simp; omega
                      clear hrc6 hwc6
                      go_wp2_with fail
                      go_ret
                      exact ⟨rfl, BX6.trans (hbr.mono BX6.size)⟩
set_option maxRecDepth 100000 in
theorem says_long (s t : BitVec 256) (lo hi : Nat) (a : Option Addr) (n cap : Nat) (w : World) (hT : TabAt 1 Lib.deBruijn64tab w) (hn : n > 300) :
    Calls Tryd.prog 3 #[SV s, SV t, .int .u8 lo, .int .u8 hi, .slice a n cap] w fun e w' => e = .returned (.bool true) ∧ Below w.heap.size w w' := by
  have hd300 : decide ((n : Int) > 300) = true := by simp; omega
  have hTT := Lib.hid hT
  clear hT
  go_enter Tryd.func3, Tryd.ntmps3
  go_wp2_with fail
  refine (awake_any _ (tab_alloc (tab_alloc hTT.out _) _)).mono ?_
  rintro e w1 ⟨rfl, hb1⟩
  have B1 : Below w.heap.size w w1 := (((Below.refl _ _).alloc (Nat.le_refl _) _).alloc (by simp) _).trans (hb1.mono (by simp; omega))
  go_wp2_with fail
  go_ret
  exact ⟨rfl, B1⟩
theorem bytesetSays_walk (s t : BitVec 256) (lo : Nat) (hlo : lo < 256) (hi : Nat) (hhi : hi < 256) (a : Option Addr) (n cap : Nat) (l : List Nat) (w : World) (hl : BytesAt w a n cap l) (hT : TabAt 1 Lib.deBruijn64tab w) :
    Calls Tryd.prog 3 #[SV s, SV t, .int .u8 lo, .int .u8 hi, .slice a n cap] w fun e w' => e = .returned (.bool true) ∧ Below w.heap.size w w' := by
  by_cases hn : n > 300
  · exact says_long s t lo hi a n cap w hT hn
  · exact says_front s t lo hlo hi hhi a n cap l w hl hT hn
end Go.Proofs.YtgdkopcfkoikjaaDoor
