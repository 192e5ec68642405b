/- The walk of the document's own Named. -/
import Derived.Test.YtgdkopcfkoikjaaRefArr
import Derived.Test.YtgdkopcfkoikjaaClassIn
import Derived.Test.YtgdkopcfkoikjaaFree
import Derived.Deep.DeepCutAuto
import Derived.Laws.ResultCell
namespace Go.Proofs.Ytgdkopcfkoikjaa
open Go.RowKit

theorem rangeRef_lit (lo hi : Nat) (f : Nat → Bool) (hf : f = fun i => decide (lo ≤ i) && decide (i ≤ hi)) (hhi : hi < 256) (a b : Int) (ha : a = (lo : Int)) (hb : b = (hi : Int)) (w : World) :
    Calls Try.prog 28 #[.int .i64 a, .int .i64 b] w fun e w' => e = .returned (BV f) ∧ Below w.heap.size w w' := by
  subst hf; exact range_ref lo hi a b ha hb hhi w
def rUpper : Nat → Bool := fun i => decide (65 ≤ i) && decide (i ≤ 90)
def rLower : Nat → Bool := fun i => decide (97 ≤ i) && decide (i ≤ 122)
def rDigit : Nat → Bool := fun i => decide (48 ≤ i) && decide (i ≤ 57)
def rAlpha : Nat → Bool := fun i => rUpper i || rLower i
def rAlnum : Nat → Bool := fun i => rAlpha i || rDigit i
abbrev ZR : Obj := .cells (bc bNone) 31
theorem three0 (w : World) : BAt (((w.alloc ZR).alloc ZR).alloc ZR) w.heap.size bNone := ((BAt.start w _ _ rfl _ rfl).alloc _).alloc _
theorem three1 (w : World) (f : Nat → Bool) : BAt ((((w.alloc ZR).alloc ZR).alloc ZR).setRow w.heap.size (bc f)) (w.heap.size + 1) bNone := BAt.row ((BAt.start _ _ _ rfl _ (by simp)).alloc _) _ _ (by omega)
theorem three2 (w : World) (f g : Nat → Bool) : BAt (((((w.alloc ZR).alloc ZR).alloc ZR).setRow w.heap.size (bc f)).setRow (w.heap.size + 1) (bc g)) (w.heap.size + 1 + 1) bNone := BAt.row (BAt.row (BAt.start _ _ _ rfl _ (by simp)) _ _ (by omega)) _ _ (by omega)
theorem three3 (w : World) (f g h : Nat → Bool) (W : World) (hW : W = (((((w.alloc ZR).alloc ZR).alloc ZR).setRow w.heap.size (bc f)).setRow (w.heap.size + 1) (bc g)).setRow (w.heap.size + 1 + 1) (bc h)) :
    BAt W w.heap.size f ∧ BAt W (w.heap.size + 1) g ∧ BAt W (w.heap.size + 1 + 1) h ∧ Below w.heap.size w W ∧ W.heap.size = w.heap.size + 1 + 1 + 1 := by
  subst hW
  refine ⟨BAt.row (BAt.row (BAt.rowSame (three0 w)) _ _ (by omega)) _ _ (by omega), BAt.row (BAt.rowSame (three1 w f)) _ _ (by omega), BAt.rowSame (three2 w f g), ?_, by simp⟩
  exact below_row (below_row (below_row ((((Below.refl _ _).alloc (Nat.le_refl _) _).alloc (by simp) _).alloc (by simp; omega) _) (Nat.le_refl _) _) (by omega) _) (by omega) _
theorem eqs_store {cs : Array Value} (h : cs.size = 256) : (Try.prog.info? 31).map (·.size) = some cs.size := by rw [h]; exact infoRef
theorem quiet_load_ref {o : Oper} {a : Act} {C : World → Prop} {K : Act → Prop} (x : Operand) (ho : o.op = .load 31 x) (g : Nat) (hx : a.eval x = .pointer (some ⟨g, 0, none⟩)) (f : Nat → Bool)
    (h : ∀ w, C w → BAt w g f) (hK : K (a.put o.dst (BV f))) : o.quiet Try.prog a C K :=
  ⟨BV f, fun w hw => by
    unfold Oper.quietAt execOp
    simp only [ho, hx, Instr.loadAt, Instr.sureAddr, Sem.run_bind, Sem.run_pure, Result.andThen_ok, loadRef (h w hw)]
    exact ⟨rfl, rfl⟩, hK⟩
theorem storeCellsRef {w : World} {g : Nat} {f : Nat → Bool} (h : BAt w g f) (f' : Nat → Bool) : (storeCells ⟨g, 0, none⟩ (bc f').toList).run Try.prog w = .ok () (w.setRow g (bc f')) := by
  have hs : ∀ v ∈ (bc f').toList, v.oneCell' = true := fun v hv => (Array.all_eq_true_iff_forall_mem.1 (bc_one f')) v (by simpa using hv)
  have := run_storeCells_from (P := Try.prog) g _ (bc f').toList 0 (bc f) w h (by simp [bc_size]) hs
  rw [this]
  congr 2
theorem results_ref {fn : Func} {p u : Tmp} (h : fn.results = #[.cell p 31, .tmp u]) (tmps : Array Value) (w : World) (g : Nat) (f : Nat → Bool) (hp : tmps.getD p undef = .pointer (some ⟨g, 0, none⟩)) (hg : BAt w g f) :
    (results fn tmps).run Try.prog w = .ok (.tuple #[BV f, tmps.getD u undef]) w := by
  rw [results_cell_tmp h, hp]
  simp only [asAddr, Sem.run_pure, Result.andThen_ok, loadRef hg]
set_option maxHeartbeats 4000000 in
set_option maxRecDepth 100000 in
theorem refNamed_any (n : ByteArray) (w : World) : Calls Try.prog 10 #[.string n] w fun e w' => e = .returned (.tuple #[BV (classOf n.toList).1.getLsbD, .bool (classOf n.toList).2]) ∧ Below w.heap.size w w' := by
  obtain ⟨cl, hcl⟩ : ∃ c, c = classOf n.toList := ⟨_, rfl⟩
  rw [← hcl]
  have Hcl := Lib.hid hcl
  clear hcl
  have hz := zeroRef
  have hU := rangeRef_lit 65 90 rUpper rfl (by decide)
  have hL := rangeRef_lit 97 122 rLower rfl (by decide)
  have hD := rangeRef_lit 48 57 rDigit rfl (by decide)
  go_enter Try.func10, Try.ntmps10
  go_wp2_with fail
  refine (hU 65 90 (by omega) (by omega) _).mono ?_
  rintro e w1 ⟨rfl, hb1⟩
  have hR1 : BAt w1 w.heap.size bNone := (BAt.start w _ _ rfl _ rfl).below hb1 (by simp)
  have B1 : Below w.heap.size w w1 := ((Below.refl _ _).alloc (Nat.le_refl _) _).trans (hb1.mono (by simp))
  go_wp2_with fail
  refine (hL 97 122 (by omega) (by omega) _).mono ?_
  rintro e w2 ⟨rfl, hb2⟩
  have hR2 := hR1.below hb2 hR1.lt
  have B2 := B1.trans (hb2.mono B1.size)
  go_wp2_with fail
  refine (hD 48 57 (by omega) (by omega) _).mono ?_
  rintro e w3 ⟨rfl, hb3⟩
  have hR3 := hR2.below hb3 hR2.lt
  have B3 := B2.trans (hb3.mono B2.size)
  clear hb1 hb2 hb3 hR1 hR2 B1 B2
  have t0 := three0 w3
  have t1 := three1 w3 rUpper
  have t2 := three2 w3 rUpper rLower
  go_upto_region 2 with (first
    | (refine wpList_store_row rfl 31 _ _ rfl w3.heap.size _ rfl rfl _ _ t0 (infoRef' _) (by rw [bc_size, bc_size]) (bc_one _) ?_)
    | (refine wpList_store_row rfl 31 _ _ rfl (w3.heap.size + 1) _ rfl rfl _ _ t1 (infoRef' _) (by rw [bc_size, bc_size]) (bc_one _) ?_)
    | (refine wpList_store_row rfl 31 _ _ rfl (w3.heap.size + 1 + 1) _ rfl rfl _ _ t2 (infoRef' _) (by rw [bc_size, bc_size]) (bc_one _) ?_))
  --TAIL
  simp only [Act.put]
  generalize hW : World.setRow _ _ _ = W
  obtain ⟨b4, b5, b6, bw, bs⟩ := three3 w3 _ _ _ W hW.symm
  have bR := hR3.below bw hR3.lt
  have BW := B3.trans (bw.mono B3.size)
  have hlt3 := hR3.lt
  have hbs := Lib.hid bs
  clear bs
  clear hW t0 t1 t2 bw B3 hR3 hU hL hD
  have hcur := (Below.refl W.heap.size W).drew
  go_cut [7] from 11 to 15 (fun p wx => ∃ B, p = .pointer (some ⟨B, 0, none⟩) ∧ BAt wx B rAlnum ∧ Below W.heap.size W wx)
  case first =>
    refine wp_region_eager (.plain 0 (.plain 1 (.plain 3 (.fork 2 (.fork 4 (.sole 5 (.sole 6 .done)) 5 (.sole 4 (.sole 6 .done))) 5 (.sole 2 (.sole 4 (.sole 6 .done))))))) (W0 := W) (Below.refl _ _) (by kernel_rfl) (by kernel_rfl) (fun c a d v w h => by cases d <;> exact h) ?_
    refine' eager_want ?_ ?_ (fun K hK => ?_)
    rotate_left 1
    · simp only [List.getElem?_toArray, List.getElem?_cons_zero, List.getElem?_cons_succ]; exact rfl
    · exact rfl
    refine quiet_load_ref _ rfl _ rfl rUpper (fun w' hw' => by obtain ⟨L, rfl⟩ := hw'; exact b4.below L.ok b4.lt) ?_
    refine hK _ ?_
    clear hK K
    simp only [Act.put, List.setIfInBounds_toArray, List.set_cons_zero, List.set_cons_succ]
    refine' eager_want ?_ ?_ (fun K hK => ?_)
    rotate_left 1
    · simp only [List.getElem?_toArray, List.getElem?_cons_zero, List.getElem?_cons_succ]; exact rfl
    · exact rfl
    refine quiet_load_ref _ rfl _ rfl rLower (fun w' hw' => by obtain ⟨L, rfl⟩ := hw'; exact b5.below L.ok b5.lt) ?_
    refine hK _ ?_
    clear hK K
    simp only [Act.put, List.setIfInBounds_toArray, List.set_cons_zero, List.set_cons_succ]
    refine' eager_want ?_ ?_ (fun K hK => ?_)
    rotate_left 1
    · simp only [List.getElem?_toArray, List.getElem?_cons_zero, List.getElem?_cons_succ]; exact rfl
    · exact rfl
    refine quiet_load_ref _ rfl _ rfl rDigit (fun w' hw' => by obtain ⟨L, rfl⟩ := hw'; exact b6.below L.ok b6.lt) ?_
    refine hK _ ?_
    clear hK K
    simp only [Act.put, List.setIfInBounds_toArray, List.set_cons_zero, List.set_cons_succ]
    refine eager_fork ?_ ?_
    · refine' step_call ?_ ?_ (fun K hK => ?_)
      rotate_left 1
      · simp only [List.getElem?_toArray, List.getElem?_cons_zero, List.getElem?_cons_succ]; exact rfl
      · exact rfl
      go_simp
      refine (refOr_any rUpper rLower _).mono ?_
      rintro e wa ⟨rfl, hb⟩
      refine hK _ _ hb ?_
      have hcur := hcur.trans (hb.mono hcur.size)
      try (have hZ := hZ.below hb hZ.lt)
      clear hb hK K
      refine eager_fork ?_ ?_
      · refine' step_call ?_ ?_ (fun K hK => ?_)
        rotate_left 1
        · simp only [List.getElem?_toArray, List.getElem?_cons_zero, List.getElem?_cons_succ]; exact rfl
        · exact rfl
        go_simp
        refine (refOr_any rAlpha rDigit _).mono ?_
        rintro e wb ⟨rfl, hb⟩
        refine hK _ _ hb ?_
        have hcur := hcur.trans (hb.mono hcur.size)
        try (have hZ := hZ.below hb hZ.lt)
        clear hb hK K
        have hge := hcur.size
        refine' eager_call ?_ ?_ (fun K hK => ?_)
        rotate_left 1
        · simp only [List.getElem?_toArray, List.getElem?_cons_zero, List.getElem?_cons_succ]; exact rfl
        · exact rfl
        go_simp
        refine hK _ _ ((Below.refl _ _).alloc (Nat.le_refl _) _) ?_
        have hcur := hcur.alloc hcur.size ZR
        clear hK K
        have hZ := BAt.start wb ZR bNone rfl _ rfl
        try (simp only [Act.put, List.setIfInBounds_toArray, List.set_cons_zero, List.set_cons_succ])
        refine' eager_write ?_ ?_ (fun K hK => ?_)
        rotate_left 1
        · simp only [List.getElem?_toArray, List.getElem?_cons_zero, List.getElem?_cons_succ]; exact rfl
        · exact rfl
        refine wp_store_row 31 _ _ rfl wb.heap.size _ rfl rfl _ _ hZ (infoRef' _) (by rw [bc_size, bc_size]) (bc_one _) ?_
        refine hK _ _ (below_row (Below.refl _ _) (hge) _) ?_
        clear hK K
        refine eager_done ?_
        simp only [Act.put, List.setIfInBounds_toArray, List.set_cons_zero, List.set_cons_succ]
        go_wp2_with fail
        go_meet
        exact ⟨_, rfl, BAt.rowSame hZ, below_row hcur hge _⟩
      · have hge := hcur.size
        refine' step_call ?_ ?_ (fun K hK => ?_)
        rotate_left 1
        · simp only [List.getElem?_toArray, List.getElem?_cons_zero, List.getElem?_cons_succ]; exact rfl
        · exact rfl
        go_simp
        refine hK _ _ ((Below.refl _ _).alloc (Nat.le_refl _) _) ?_
        have hcur := hcur.alloc hcur.size ZR
        clear hK K
        have hZ := BAt.start wa ZR bNone rfl _ rfl
        refine' eager_call ?_ ?_ (fun K hK => ?_)
        rotate_left 1
        · simp only [List.getElem?_toArray, List.getElem?_cons_zero, List.getElem?_cons_succ]; exact rfl
        · exact rfl
        go_simp
        refine (refOr_any rAlpha rDigit _).mono ?_
        rintro e wb ⟨rfl, hb⟩
        refine hK _ _ hb ?_
        have hcur := hcur.trans (hb.mono hcur.size)
        try (have hZ := hZ.below hb hZ.lt)
        clear hb hK K

        try (simp only [Act.put, List.setIfInBounds_toArray, List.set_cons_zero, List.set_cons_succ])
        refine' eager_write ?_ ?_ (fun K hK => ?_)
        rotate_left 1
        · simp only [List.getElem?_toArray, List.getElem?_cons_zero, List.getElem?_cons_succ]; exact rfl
        · exact rfl
        refine wp_store_row 31 _ _ rfl wa.heap.size _ rfl rfl _ _ hZ (infoRef' _) (by rw [bc_size, bc_size]) (bc_one _) ?_
        refine hK _ _ (below_row (Below.refl _ _) (hge) _) ?_
        clear hK K
        refine eager_done ?_
        simp only [Act.put, List.setIfInBounds_toArray, List.set_cons_zero, List.set_cons_succ]
        go_wp2_with fail
        go_meet
        exact ⟨_, rfl, BAt.rowSame hZ, below_row hcur hge _⟩
    · refine' step_call ?_ ?_ (fun K hK => ?_)
      rotate_left 1
      · simp only [List.getElem?_toArray, List.getElem?_cons_zero, List.getElem?_cons_succ]; exact rfl
      · exact rfl
      go_simp
      refine hK _ _ ((Below.refl _ _).alloc (Nat.le_refl _) _) ?_
      have hcur := hcur.alloc hcur.size ZR
      clear hK K
      have hZ := BAt.start W.drew ZR bNone rfl _ rfl
      have hge : W.heap.size ≤ W.heap.size := Nat.le_refl _
      refine' eager_call ?_ ?_ (fun K hK => ?_)
      rotate_left 1
      · simp only [List.getElem?_toArray, List.getElem?_cons_zero, List.getElem?_cons_succ]; exact rfl
      · exact rfl
      go_simp
      refine (refOr_any rUpper rLower _).mono ?_
      rintro e wa ⟨rfl, hb⟩
      refine hK _ _ hb ?_
      have hcur := hcur.trans (hb.mono hcur.size)
      try (have hZ := hZ.below hb hZ.lt)
      clear hb hK K
      refine' eager_call ?_ ?_ (fun K hK => ?_)
      rotate_left 1
      · simp only [List.getElem?_toArray, List.getElem?_cons_zero, List.getElem?_cons_succ]; exact rfl
      · exact rfl
      go_simp
      refine (refOr_any rAlpha rDigit _).mono ?_
      rintro e wb ⟨rfl, hb⟩
      refine hK _ _ hb ?_
      have hcur := hcur.trans (hb.mono hcur.size)
      try (have hZ := hZ.below hb hZ.lt)
      clear hb hK K
      try (simp only [Act.put, List.setIfInBounds_toArray, List.set_cons_zero, List.set_cons_succ])
      refine' eager_write ?_ ?_ (fun K hK => ?_)
      rotate_left 1
      · simp only [List.getElem?_toArray, List.getElem?_cons_zero, List.getElem?_cons_succ]; exact rfl
      · exact rfl
      refine wp_store_row 31 _ _ rfl W.heap.size _ rfl rfl _ _ hZ (infoRef' _) (by rw [bc_size, bc_size]) (bc_one _) ?_
      refine hK _ _ (below_row (Below.refl _ _) (hge) _) ?_
      clear hK K
      refine eager_done ?_
      simp only [Act.put, List.setIfInBounds_toArray, List.set_cons_zero, List.set_cons_succ]
      go_wp2_with fail
      go_meet
      exact ⟨_, rfl, BAt.rowSame hZ, below_row hcur hge _⟩
  case rest =>
    obtain ⟨B7, rfl, b7, bwc⟩ := hcut
    have c4 := b4.below bwc b4.lt
    have c5 := b5.below bwc b5.lt
    have c6 := b6.below bwc b6.lt
    have cR := bR.below bwc bR.lt
    have BC := BW.trans (bwc.mono BW.size)
    clear b4 b5 b6 bR BW hcur bwc hbs
    obtain ⟨M4, hM4⟩ : ∃ x, x = w3.heap.size := ⟨_, rfl⟩
    rw [← hM4] at c4 c5 c6 hlt3
    rw [← hM4]
    clear hM4
    have n4 : M4 ≠ w.heap.size := by omega
    have n5 : M4 + 1 ≠ w.heap.size := by omega
    have n6 : M4 + 1 + 1 ≠ w.heap.size := by omega
    have n7 := c4.lt
    by_cases n0 : (n.toList == [117, 112, 112, 101, 114]) = true
    · have hc : Hid (cl = (cUpper, true)) := Lib.hid (by rw [Hcl.out]; unfold classOf; simp only [n0, Bool.false_eq_true, if_false, if_true])
      go_wp2_with (first | (refine wpList_load_row rfl 31 _ rfl M4 rfl _ _ _ _ c4 Try.underlying31 rfl (infoRef' _) ?_) | (refine wpList_store_row rfl 31 _ _ rfl w.heap.size _ rfl rfl _ _ cR (infoRef' _) (by rw [bc_size, bc_size]) (bc_one _) ?_))
      refine bodyPost_ret (v := .tuple #[BV rUpper, .bool true]) (results_ref Try.results10 _ _ w.heap.size _ rfl (BAt.rowSame cR)) rfl ⟨?_, below_row BC (Nat.le_refl _) _⟩
      rw [hc.out, show BV rUpper = BV cUpper.getLsbD from BV_ext (by decide +kernel)]
    replace n0 : (n.toList == [117, 112, 112, 101, 114]) = false := by simpa using n0
    by_cases n1 : (n.toList == [108, 111, 119, 101, 114]) = true
    · have hc : Hid (cl = (cLower, true)) := Lib.hid (by rw [Hcl.out]; unfold classOf; simp only [n0, n1, Bool.false_eq_true, if_false, if_true])
      go_wp2_with (first | (refine wpList_load_row rfl 31 _ rfl (M4 + 1) rfl _ _ _ _ c5 Try.underlying31 rfl (infoRef' _) ?_) | (refine wpList_store_row rfl 31 _ _ rfl w.heap.size _ rfl rfl _ _ cR (infoRef' _) (by rw [bc_size, bc_size]) (bc_one _) ?_))
      refine bodyPost_ret (v := .tuple #[BV rLower, .bool true]) (results_ref Try.results10 _ _ w.heap.size _ rfl (BAt.rowSame cR)) rfl ⟨?_, below_row BC (Nat.le_refl _) _⟩
      rw [hc.out, show BV rLower = BV cLower.getLsbD from BV_ext (by decide +kernel)]
    replace n1 : (n.toList == [108, 111, 119, 101, 114]) = false := by simpa using n1
    by_cases n2 : (n.toList == [97, 108, 112, 104, 97]) = true
    · have hc : Hid (cl = (cAlpha, true)) := Lib.hid (by rw [Hcl.out]; unfold classOf; simp only [n0, n1, n2, Bool.false_eq_true, if_false, if_true])
      go_wp2_with (first | (refine wpList_load_row rfl 31 _ rfl M4 rfl _ _ _ _ c4 Try.underlying31 rfl (infoRef' _) ?_) | (refine wpList_load_row rfl 31 _ rfl (M4 + 1) rfl _ _ _ _ c5 Try.underlying31 rfl (infoRef' _) ?_))
      refine (refOr_any _ _ _).mono ?_
      rintro e v1 ⟨rfl, hb1⟩
      have cR := cR.below hb1 cR.lt
      have BC := BC.trans (hb1.mono BC.size)
      go_wp2_with (first | (refine wpList_store_row rfl 31 _ _ rfl w.heap.size _ rfl rfl _ _ cR (infoRef' _) (by rw [bc_size, bc_size]) (bc_one _) ?_))
      refine bodyPost_ret (v := .tuple #[BV rAlpha, .bool true]) (results_ref Try.results10 _ _ w.heap.size _ rfl (BAt.rowSame cR)) rfl ⟨?_, below_row BC (Nat.le_refl _) _⟩
      rw [hc.out, show BV rAlpha = BV cAlpha.getLsbD from BV_ext (by decide +kernel)]
    replace n2 : (n.toList == [97, 108, 112, 104, 97]) = false := by simpa using n2
    by_cases n3 : (n.toList == [100, 105, 103, 105, 116]) = true
    · have hc : Hid (cl = (cDigit, true)) := Lib.hid (by rw [Hcl.out]; unfold classOf; simp only [n0, n1, n2, n3, Bool.false_eq_true, if_false, if_true])
      go_wp2_with (first | (refine wpList_load_row rfl 31 _ rfl (M4 + 1 + 1) rfl _ _ _ _ c6 Try.underlying31 rfl (infoRef' _) ?_) | (refine wpList_store_row rfl 31 _ _ rfl w.heap.size _ rfl rfl _ _ cR (infoRef' _) (by rw [bc_size, bc_size]) (bc_one _) ?_))
      refine bodyPost_ret (v := .tuple #[BV rDigit, .bool true]) (results_ref Try.results10 _ _ w.heap.size _ rfl (BAt.rowSame cR)) rfl ⟨?_, below_row BC (Nat.le_refl _) _⟩
      rw [hc.out, show BV rDigit = BV cDigit.getLsbD from BV_ext (by decide +kernel)]
    replace n3 : (n.toList == [100, 105, 103, 105, 116]) = false := by simpa using n3
    by_cases n4 : (n.toList == [97, 108, 110, 117, 109]) = true
    · have hc : Hid (cl = (cAlnum, true)) := Lib.hid (by rw [Hcl.out]; unfold classOf; simp only [n0, n1, n2, n3, n4, Bool.false_eq_true, if_false, if_true])
      go_wp2_with (first | (refine wpList_load_row rfl 31 _ rfl B7 rfl _ _ _ _ b7 Try.underlying31 rfl (infoRef' _) ?_) | (refine wpList_store_row rfl 31 _ _ rfl w.heap.size _ rfl rfl _ _ cR (infoRef' _) (by rw [bc_size, bc_size]) (bc_one _) ?_))
      refine bodyPost_ret (v := .tuple #[BV rAlnum, .bool true]) (results_ref Try.results10 _ _ w.heap.size _ rfl (BAt.rowSame cR)) rfl ⟨?_, below_row BC (Nat.le_refl _) _⟩
      rw [hc.out, show BV rAlnum = BV cAlnum.getLsbD from BV_ext (by decide +kernel)]
    replace n4 : (n.toList == [97, 108, 110, 117, 109]) = false := by simpa using n4
    by_cases n5 : (n.toList == [120, 100, 105, 103, 105, 116]) = true
    · have hc : Hid (cl = (cXdigit, true)) := Lib.hid (by rw [Hcl.out]; unfold classOf; simp only [n0, n1, n2, n3, n4, n5, Bool.false_eq_true, if_false, if_true])
      have hqA := rangeRef_lit 65 70 _ rfl (by decide)
      have hqa := rangeRef_lit 97 102 _ rfl (by decide)
      go_upto_region 15 with fail
      have BC := BC.drew
      have cR := cR.drew
      have c6 := c6.drew
      have b7 := b7.drew
      refine wp_region_free (.fork 0 (.sole 1 (.sole 2 (.sole 3 (.sole 4 (.sole 5 (.plain 6 .done)))))) 1 (.fork 0 (.sole 2 (.sole 3 (.sole 4 (.sole 5 (.plain 6 .done))))) 2 (.fork 0 (.sole 3 (.sole 4 (.sole 5 (.plain 6 .done)))) 3 (.sole 0 (.sole 4 (.sole 5 (.plain 6 .done))))))) (by kernel_rfl) (by kernel_rfl) (fun c a d v w h => by cases d <;> exact h) ?_
      refine free_fork ?_ ?_
      · refine' free_step ?_ ?_ (fun K hK => ?_)
        rotate_left 1
        · simp only [List.getElem?_toArray, List.getElem?_cons_zero, List.getElem?_cons_succ]; exact rfl
        · exact rfl
        refine wp_load_row 31 _ rfl (M4 + 1 + 1) rfl _ _ _ _ c6 Try.underlying31 rfl (infoRef' _) ?_
        refine hK _ _ ?_
        clear hK K
        simp only [Act.put, List.setIfInBounds_toArray, List.set_cons_zero, List.set_cons_succ]
        refine' free_sole ?_ ?_ (fun K hK => ?_)
        rotate_left 1
        · simp only [List.getElem?_toArray, List.getElem?_cons_zero, List.getElem?_cons_succ]; exact rfl
        · exact rfl
        go_simp
        refine (hqA 65 70 (by omega) (by omega) _).mono ?_
        rintro e v1 ⟨rfl, hb1⟩
        refine hK _ _ ?_
        have cR := cR.below hb1 cR.lt
        have c6 := c6.below hb1 c6.lt
        have BC := BC.trans (hb1.mono BC.size)
        clear hb1 hK K
        refine' free_sole ?_ ?_ (fun K hK => ?_)
        rotate_left 1
        · simp only [List.getElem?_toArray, List.getElem?_cons_zero, List.getElem?_cons_succ]; exact rfl
        · exact rfl
        go_simp
        refine (hqa 97 102 (by omega) (by omega) _).mono ?_
        rintro e v2 ⟨rfl, hb2⟩
        refine hK _ _ ?_
        have cR := cR.below hb2 cR.lt
        have c6 := c6.below hb2 c6.lt
        have BC := BC.trans (hb2.mono BC.size)
        clear hb2 hK K
        refine' free_sole ?_ ?_ (fun K hK => ?_)
        rotate_left 1
        · simp only [List.getElem?_toArray, List.getElem?_cons_zero, List.getElem?_cons_succ]; exact rfl
        · exact rfl
        go_simp
        refine (refOr_any _ _ _).mono ?_
        rintro e v3 ⟨rfl, hb3⟩
        refine hK _ _ ?_
        have cR := cR.below hb3 cR.lt
        have c6 := c6.below hb3 c6.lt
        have BC := BC.trans (hb3.mono BC.size)
        clear hb3 hK K
        refine' free_sole ?_ ?_ (fun K hK => ?_)
        rotate_left 1
        · simp only [List.getElem?_toArray, List.getElem?_cons_zero, List.getElem?_cons_succ]; exact rfl
        · exact rfl
        go_simp
        refine (refOr_any _ _ _).mono ?_
        rintro e v4 ⟨rfl, hb4⟩
        refine hK _ _ ?_
        have cR := cR.below hb4 cR.lt
        have c6 := c6.below hb4 c6.lt
        have BC := BC.trans (hb4.mono BC.size)
        clear hb4 hK K
        try (simp only [Act.put, List.setIfInBounds_toArray, List.set_cons_zero, List.set_cons_succ])
        refine' free_sole ?_ ?_ (fun K hK => ?_)
        rotate_left 1
        · simp only [List.getElem?_toArray, List.getElem?_cons_zero, List.getElem?_cons_succ]; exact rfl
        · exact rfl
        refine wp_store_row 31 _ _ rfl w.heap.size _ rfl rfl _ _ cR (infoRef' _) (by rw [bc_size, bc_size]) (bc_one _) ?_
        refine hK _ _ ?_
        clear hK K
        simp only [Act.put, List.setIfInBounds_toArray, List.set_cons_zero, List.set_cons_succ]
        refine' free_plain ?_ ?_ (fun K hK => ?_)
        rotate_left 1
        · simp only [List.getElem?_toArray, List.getElem?_cons_zero, List.getElem?_cons_succ]; exact rfl
        · exact rfl
        go_big_quiet_op
        refine hK _ ?_
        clear hK K
        refine free_done ?_
        try (simp only [Act.put, List.setIfInBounds_toArray, List.set_cons_zero, List.set_cons_succ])
        go_wp2_with fail
        refine bodyPost_ret (v := .tuple #[BV (fun i => rDigit i || ((decide (65 ≤ i) && decide (i ≤ 70)) || (decide (97 ≤ i) && decide (i ≤ 102)))), .bool true]) (results_ref Try.results10 _ _ w.heap.size _ rfl (BAt.rowSame cR)) rfl ⟨?_, below_row BC (Nat.le_refl _) _⟩
        rw [hc.out, show BV (fun i => rDigit i || ((decide (65 ≤ i) && decide (i ≤ 70)) || (decide (97 ≤ i) && decide (i ≤ 102)))) = BV cXdigit.getLsbD from BV_ext (by decide +kernel)]
      · refine' free_step ?_ ?_ (fun K hK => ?_)
        rotate_left 1
        · simp only [List.getElem?_toArray, List.getElem?_cons_zero, List.getElem?_cons_succ]; exact rfl
        · exact rfl
        go_simp
        refine (hqA 65 70 (by omega) (by omega) _).mono ?_
        rintro e v1 ⟨rfl, hb1⟩
        refine hK _ _ ?_
        have cR := cR.below hb1 cR.lt
        have c6 := c6.below hb1 c6.lt
        have BC := BC.trans (hb1.mono BC.size)
        clear hb1 hK K
        refine free_fork ?_ ?_
        · refine' free_step ?_ ?_ (fun K hK => ?_)
          rotate_left 1
          · simp only [List.getElem?_toArray, List.getElem?_cons_zero, List.getElem?_cons_succ]; exact rfl
          · exact rfl
          refine wp_load_row 31 _ rfl (M4 + 1 + 1) rfl _ _ _ _ c6 Try.underlying31 rfl (infoRef' _) ?_
          refine hK _ _ ?_
          clear hK K
          simp only [Act.put, List.setIfInBounds_toArray, List.set_cons_zero, List.set_cons_succ]
          refine' free_sole ?_ ?_ (fun K hK => ?_)
          rotate_left 1
          · simp only [List.getElem?_toArray, List.getElem?_cons_zero, List.getElem?_cons_succ]; exact rfl
          · exact rfl
          go_simp
          refine (hqa 97 102 (by omega) (by omega) _).mono ?_
          rintro e v2 ⟨rfl, hb2⟩
          refine hK _ _ ?_
          have cR := cR.below hb2 cR.lt
          have c6 := c6.below hb2 c6.lt
          have BC := BC.trans (hb2.mono BC.size)
          clear hb2 hK K
          refine' free_sole ?_ ?_ (fun K hK => ?_)
          rotate_left 1
          · simp only [List.getElem?_toArray, List.getElem?_cons_zero, List.getElem?_cons_succ]; exact rfl
          · exact rfl
          go_simp
          refine (refOr_any _ _ _).mono ?_
          rintro e v3 ⟨rfl, hb3⟩
          refine hK _ _ ?_
          have cR := cR.below hb3 cR.lt
          have c6 := c6.below hb3 c6.lt
          have BC := BC.trans (hb3.mono BC.size)
          clear hb3 hK K
          refine' free_sole ?_ ?_ (fun K hK => ?_)
          rotate_left 1
          · simp only [List.getElem?_toArray, List.getElem?_cons_zero, List.getElem?_cons_succ]; exact rfl
          · exact rfl
          go_simp
          refine (refOr_any _ _ _).mono ?_
          rintro e v4 ⟨rfl, hb4⟩
          refine hK _ _ ?_
          have cR := cR.below hb4 cR.lt
          have c6 := c6.below hb4 c6.lt
          have BC := BC.trans (hb4.mono BC.size)
          clear hb4 hK K
          try (simp only [Act.put, List.setIfInBounds_toArray, List.set_cons_zero, List.set_cons_succ])
          refine' free_sole ?_ ?_ (fun K hK => ?_)
          rotate_left 1
          · simp only [List.getElem?_toArray, List.getElem?_cons_zero, List.getElem?_cons_succ]; exact rfl
          · exact rfl
          refine wp_store_row 31 _ _ rfl w.heap.size _ rfl rfl _ _ cR (infoRef' _) (by rw [bc_size, bc_size]) (bc_one _) ?_
          refine hK _ _ ?_
          clear hK K
          simp only [Act.put, List.setIfInBounds_toArray, List.set_cons_zero, List.set_cons_succ]
          refine' free_plain ?_ ?_ (fun K hK => ?_)
          rotate_left 1
          · simp only [List.getElem?_toArray, List.getElem?_cons_zero, List.getElem?_cons_succ]; exact rfl
          · exact rfl
          go_big_quiet_op
          refine hK _ ?_
          clear hK K
          refine free_done ?_
          try (simp only [Act.put, List.setIfInBounds_toArray, List.set_cons_zero, List.set_cons_succ])
          go_wp2_with fail
          refine bodyPost_ret (v := .tuple #[BV (fun i => rDigit i || ((decide (65 ≤ i) && decide (i ≤ 70)) || (decide (97 ≤ i) && decide (i ≤ 102)))), .bool true]) (results_ref Try.results10 _ _ w.heap.size _ rfl (BAt.rowSame cR)) rfl ⟨?_, below_row BC (Nat.le_refl _) _⟩
          rw [hc.out, show BV (fun i => rDigit i || ((decide (65 ≤ i) && decide (i ≤ 70)) || (decide (97 ≤ i) && decide (i ≤ 102)))) = BV cXdigit.getLsbD from BV_ext (by decide +kernel)]
        · refine' free_step ?_ ?_ (fun K hK => ?_)
          rotate_left 1
          · simp only [List.getElem?_toArray, List.getElem?_cons_zero, List.getElem?_cons_succ]; exact rfl
          · exact rfl
          go_simp
          refine (hqa 97 102 (by omega) (by omega) _).mono ?_
          rintro e v2 ⟨rfl, hb2⟩
          refine hK _ _ ?_
          have cR := cR.below hb2 cR.lt
          have c6 := c6.below hb2 c6.lt
          have BC := BC.trans (hb2.mono BC.size)
          clear hb2 hK K
          refine free_fork ?_ ?_
          · refine' free_step ?_ ?_ (fun K hK => ?_)
            rotate_left 1
            · simp only [List.getElem?_toArray, List.getElem?_cons_zero, List.getElem?_cons_succ]; exact rfl
            · exact rfl
            refine wp_load_row 31 _ rfl (M4 + 1 + 1) rfl _ _ _ _ c6 Try.underlying31 rfl (infoRef' _) ?_
            refine hK _ _ ?_
            clear hK K
            simp only [Act.put, List.setIfInBounds_toArray, List.set_cons_zero, List.set_cons_succ]
            refine' free_sole ?_ ?_ (fun K hK => ?_)
            rotate_left 1
            · simp only [List.getElem?_toArray, List.getElem?_cons_zero, List.getElem?_cons_succ]; exact rfl
            · exact rfl
            go_simp
            refine (refOr_any _ _ _).mono ?_
            rintro e v3 ⟨rfl, hb3⟩
            refine hK _ _ ?_
            have cR := cR.below hb3 cR.lt
            have c6 := c6.below hb3 c6.lt
            have BC := BC.trans (hb3.mono BC.size)
            clear hb3 hK K
            refine' free_sole ?_ ?_ (fun K hK => ?_)
            rotate_left 1
            · simp only [List.getElem?_toArray, List.getElem?_cons_zero, List.getElem?_cons_succ]; exact rfl
            · exact rfl
            go_simp
            refine (refOr_any _ _ _).mono ?_
            rintro e v4 ⟨rfl, hb4⟩
            refine hK _ _ ?_
            have cR := cR.below hb4 cR.lt
            have c6 := c6.below hb4 c6.lt
            have BC := BC.trans (hb4.mono BC.size)
            clear hb4 hK K
            try (simp only [Act.put, List.setIfInBounds_toArray, List.set_cons_zero, List.set_cons_succ])
            refine' free_sole ?_ ?_ (fun K hK => ?_)
            rotate_left 1
            · simp only [List.getElem?_toArray, List.getElem?_cons_zero, List.getElem?_cons_succ]; exact rfl
            · exact rfl
            refine wp_store_row 31 _ _ rfl w.heap.size _ rfl rfl _ _ cR (infoRef' _) (by rw [bc_size, bc_size]) (bc_one _) ?_
            refine hK _ _ ?_
            clear hK K
            simp only [Act.put, List.setIfInBounds_toArray, List.set_cons_zero, List.set_cons_succ]
            refine' free_plain ?_ ?_ (fun K hK => ?_)
            rotate_left 1
            · simp only [List.getElem?_toArray, List.getElem?_cons_zero, List.getElem?_cons_succ]; exact rfl
            · exact rfl
            go_big_quiet_op
            refine hK _ ?_
            clear hK K
            refine free_done ?_
            try (simp only [Act.put, List.setIfInBounds_toArray, List.set_cons_zero, List.set_cons_succ])
            go_wp2_with fail
            refine bodyPost_ret (v := .tuple #[BV (fun i => rDigit i || ((decide (65 ≤ i) && decide (i ≤ 70)) || (decide (97 ≤ i) && decide (i ≤ 102)))), .bool true]) (results_ref Try.results10 _ _ w.heap.size _ rfl (BAt.rowSame cR)) rfl ⟨?_, below_row BC (Nat.le_refl _) _⟩
            rw [hc.out, show BV (fun i => rDigit i || ((decide (65 ≤ i) && decide (i ≤ 70)) || (decide (97 ≤ i) && decide (i ≤ 102)))) = BV cXdigit.getLsbD from BV_ext (by decide +kernel)]
          · refine' free_step ?_ ?_ (fun K hK => ?_)
            rotate_left 1
            · simp only [List.getElem?_toArray, List.getElem?_cons_zero, List.getElem?_cons_succ]; exact rfl
            · exact rfl
            go_simp
            refine (refOr_any _ _ _).mono ?_
            rintro e v3 ⟨rfl, hb3⟩
            refine hK _ _ ?_
            have cR := cR.below hb3 cR.lt
            have c6 := c6.below hb3 c6.lt
            have BC := BC.trans (hb3.mono BC.size)
            clear hb3 hK K
            refine' free_sole ?_ ?_ (fun K hK => ?_)
            rotate_left 1
            · simp only [List.getElem?_toArray, List.getElem?_cons_zero, List.getElem?_cons_succ]; exact rfl
            · exact rfl
            refine wp_load_row 31 _ rfl (M4 + 1 + 1) rfl _ _ _ _ c6 Try.underlying31 rfl (infoRef' _) ?_
            refine hK _ _ ?_
            clear hK K
            simp only [Act.put, List.setIfInBounds_toArray, List.set_cons_zero, List.set_cons_succ]
            refine' free_sole ?_ ?_ (fun K hK => ?_)
            rotate_left 1
            · simp only [List.getElem?_toArray, List.getElem?_cons_zero, List.getElem?_cons_succ]; exact rfl
            · exact rfl
            go_simp
            refine (refOr_any _ _ _).mono ?_
            rintro e v4 ⟨rfl, hb4⟩
            refine hK _ _ ?_
            have cR := cR.below hb4 cR.lt
            have c6 := c6.below hb4 c6.lt
            have BC := BC.trans (hb4.mono BC.size)
            clear hb4 hK K
            try (simp only [Act.put, List.setIfInBounds_toArray, List.set_cons_zero, List.set_cons_succ])
            refine' free_sole ?_ ?_ (fun K hK => ?_)
            rotate_left 1
            · simp only [List.getElem?_toArray, List.getElem?_cons_zero, List.getElem?_cons_succ]; exact rfl
            · exact rfl
            refine wp_store_row 31 _ _ rfl w.heap.size _ rfl rfl _ _ cR (infoRef' _) (by rw [bc_size, bc_size]) (bc_one _) ?_
            refine hK _ _ ?_
            clear hK K
            simp only [Act.put, List.setIfInBounds_toArray, List.set_cons_zero, List.set_cons_succ]
            refine' free_plain ?_ ?_ (fun K hK => ?_)
            rotate_left 1
            · simp only [List.getElem?_toArray, List.getElem?_cons_zero, List.getElem?_cons_succ]; exact rfl
            · exact rfl
            go_big_quiet_op
            refine hK _ ?_
            clear hK K
            refine free_done ?_
            try (simp only [Act.put, List.setIfInBounds_toArray, List.set_cons_zero, List.set_cons_succ])
            go_wp2_with fail
            refine bodyPost_ret (v := .tuple #[BV (fun i => rDigit i || ((decide (65 ≤ i) && decide (i ≤ 70)) || (decide (97 ≤ i) && decide (i ≤ 102)))), .bool true]) (results_ref Try.results10 _ _ w.heap.size _ rfl (BAt.rowSame cR)) rfl ⟨?_, below_row BC (Nat.le_refl _) _⟩
            rw [hc.out, show BV (fun i => rDigit i || ((decide (65 ≤ i) && decide (i ≤ 70)) || (decide (97 ≤ i) && decide (i ≤ 102)))) = BV cXdigit.getLsbD from BV_ext (by decide +kernel)]
    replace n5 : (n.toList == [120, 100, 105, 103, 105, 116]) = false := by simpa using n5
    by_cases n6 : (n.toList == [98, 108, 97, 110, 107]) = true
    · have hc : Hid (cl = (cBlank, true)) := Lib.hid (by rw [Hcl.out]; unfold classOf; simp only [n0, n1, n2, n3, n4, n5, n6, Bool.false_eq_true, if_false, if_true])
      go_wp2_with fail
      refine (refOf_any _ _ _ [32, 9] _ (bytesAt_new [32, 9] (by decide) (by decide) rfl rfl rfl (by decide))).mono ?_
      rintro e v1 ⟨rfl, hb1⟩
      have cR := (cR.alloc _).below hb1 (by have := cR.lt; simp; omega)
      have BC := (BC.alloc BC.size _).trans (hb1.mono (by have := BC.size; simp; omega))
      go_wp2_with (first | (refine wpList_store_row rfl 31 _ _ rfl w.heap.size _ rfl rfl _ _ cR (infoRef' _) (by rw [bc_size, bc_size]) (bc_one _) ?_))
      refine bodyPost_ret (v := .tuple #[BV (fun j => decide (j ∈ [32, 9])), .bool true]) (results_ref Try.results10 _ _ w.heap.size _ rfl (BAt.rowSame cR)) rfl ⟨?_, below_row BC (Nat.le_refl _) _⟩
      rw [hc.out, show BV (fun j => decide (j ∈ [32, 9])) = BV cBlank.getLsbD from BV_ext (by decide +kernel)]
    replace n6 : (n.toList == [98, 108, 97, 110, 107]) = false := by simpa using n6
    by_cases n7 : (n.toList == [115, 112, 97, 99, 101]) = true
    · have hc : Hid (cl = (cSpace, true)) := Lib.hid (by rw [Hcl.out]; unfold classOf; simp only [n0, n1, n2, n3, n4, n5, n6, n7, Bool.false_eq_true, if_false, if_true])
      have hq := rangeRef_lit 9 13 _ rfl (by decide)
      go_wp2_with fail
      refine (refOf_any _ _ _ [32] _ (bytesAt_new [32] (by decide) (by decide) rfl rfl rfl (by decide))).mono ?_
      rintro e v1 ⟨rfl, hb1⟩
      have cR := (cR.alloc _).below hb1 (by have := cR.lt; simp; omega)
      have BC := (BC.alloc BC.size _).trans (hb1.mono (by have := BC.size; simp; omega))
      go_wp2_with fail
      refine (hq 9 13 (by omega) (by omega) _).mono ?_
      rintro e v2 ⟨rfl, hb2⟩
      have cR := cR.below hb2 cR.lt
      have BC := BC.trans (hb2.mono BC.size)
      go_wp2_with fail
      refine (refOr_any _ _ _).mono ?_
      rintro e v3 ⟨rfl, hb3⟩
      have cR := cR.below hb3 cR.lt
      have BC := BC.trans (hb3.mono BC.size)
      go_wp2_with (first | (refine wpList_store_row rfl 31 _ _ rfl w.heap.size _ rfl rfl _ _ cR (infoRef' _) (by rw [bc_size, bc_size]) (bc_one _) ?_))
      refine bodyPost_ret (v := .tuple #[BV (fun i => decide (i ∈ [32]) || (decide (9 ≤ i) && decide (i ≤ 13))), .bool true]) (results_ref Try.results10 _ _ w.heap.size _ rfl (BAt.rowSame cR)) rfl ⟨?_, below_row BC (Nat.le_refl _) _⟩
      rw [hc.out, show BV (fun i => decide (i ∈ [32]) || (decide (9 ≤ i) && decide (i ≤ 13))) = BV cSpace.getLsbD from BV_ext (by decide +kernel)]
    replace n7 : (n.toList == [115, 112, 97, 99, 101]) = false := by simpa using n7
    by_cases n8 : (n.toList == [99, 110, 116, 114, 108]) = true
    · have hc : Hid (cl = (cCntrl, true)) := Lib.hid (by rw [Hcl.out]; unfold classOf; simp only [n0, n1, n2, n3, n4, n5, n6, n7, n8, Bool.false_eq_true, if_false, if_true])
      have hq := rangeRef_lit 0 31 _ rfl (by decide)
      go_wp2_with fail
      refine (hq 0 31 (by omega) (by omega) _).mono ?_
      rintro e v1 ⟨rfl, hb1⟩
      have cR := cR.below hb1 cR.lt
      have BC := BC.trans (hb1.mono BC.size)
      go_wp2_with fail
      refine (refOf_any _ _ _ [127] _ (bytesAt_new [127] (by decide) (by decide) rfl rfl rfl (by decide))).mono ?_
      rintro e v2 ⟨rfl, hb2⟩
      have cR := (cR.alloc _).below hb2 (by have := cR.lt; simp; omega)
      have BC := (BC.alloc BC.size _).trans (hb2.mono (by have := BC.size; simp; omega))
      go_wp2_with fail
      refine (refOr_any _ _ _).mono ?_
      rintro e v3 ⟨rfl, hb3⟩
      have cR := cR.below hb3 cR.lt
      have BC := BC.trans (hb3.mono BC.size)
      go_wp2_with (first | (refine wpList_store_row rfl 31 _ _ rfl w.heap.size _ rfl rfl _ _ cR (infoRef' _) (by rw [bc_size, bc_size]) (bc_one _) ?_))
      refine bodyPost_ret (v := .tuple #[BV (fun i => (decide (0 ≤ i) && decide (i ≤ 31)) || decide (i ∈ [127])), .bool true]) (results_ref Try.results10 _ _ w.heap.size _ rfl (BAt.rowSame cR)) rfl ⟨?_, below_row BC (Nat.le_refl _) _⟩
      rw [hc.out, show BV (fun i => (decide (0 ≤ i) && decide (i ≤ 31)) || decide (i ∈ [127])) = BV cCntrl.getLsbD from BV_ext (by decide +kernel)]
    replace n8 : (n.toList == [99, 110, 116, 114, 108]) = false := by simpa using n8
    by_cases n9 : (n.toList == [112, 117, 110, 99, 116]) = true
    · have hc : Hid (cl = (cPunct, true)) := Lib.hid (by rw [Hcl.out]; unfold classOf; simp only [n0, n1, n2, n3, n4, n5, n6, n7, n8, n9, Bool.false_eq_true, if_false, if_true])
      have hq := rangeRef_lit 33 126 _ rfl (by decide)
      go_upto_region 23 with fail
      have BC := BC.drew
      have cR := cR.drew
      have c6 := c6.drew
      have b7 := b7.drew
      refine wp_region_free (.fork 0 (.sole 1 (.sole 2 (.sole 3 (.sole 4 (.plain 5 .done))))) 1 (.sole 0 (.sole 2 (.sole 3 (.sole 4 (.plain 5 .done)))))) (by kernel_rfl) (by kernel_rfl) (fun c a d v w h => by cases d <;> exact h) ?_
      refine free_fork ?_ ?_
      · refine' free_step ?_ ?_ (fun K hK => ?_)
        rotate_left 1
        · simp only [List.getElem?_toArray, List.getElem?_cons_zero, List.getElem?_cons_succ]; exact rfl
        · exact rfl
        go_simp
        refine (hq 33 126 (by omega) (by omega) _).mono ?_
        rintro e v1 ⟨rfl, hb1⟩
        refine hK _ _ ?_
        have cR := cR.below hb1 cR.lt
        have b7 := b7.below hb1 b7.lt
        have BC := BC.trans (hb1.mono BC.size)
        clear hb1 hK K
        refine' free_sole ?_ ?_ (fun K hK => ?_)
        rotate_left 1
        · simp only [List.getElem?_toArray, List.getElem?_cons_zero, List.getElem?_cons_succ]; exact rfl
        · exact rfl
        refine wp_load_row 31 _ rfl B7 rfl _ _ _ _ b7 Try.underlying31 rfl (infoRef' _) ?_
        refine hK _ _ ?_
        clear hK K
        simp only [Act.put, List.setIfInBounds_toArray, List.set_cons_zero, List.set_cons_succ]
        refine' free_sole ?_ ?_ (fun K hK => ?_)
        rotate_left 1
        · simp only [List.getElem?_toArray, List.getElem?_cons_zero, List.getElem?_cons_succ]; exact rfl
        · exact rfl
        go_simp
        refine (refNot_any _ _).mono ?_
        rintro e v2 ⟨rfl, hb2⟩
        refine hK _ _ ?_
        have cR := cR.below hb2 cR.lt
        have b7 := b7.below hb2 b7.lt
        have BC := BC.trans (hb2.mono BC.size)
        clear hb2 hK K
        refine' free_sole ?_ ?_ (fun K hK => ?_)
        rotate_left 1
        · simp only [List.getElem?_toArray, List.getElem?_cons_zero, List.getElem?_cons_succ]; exact rfl
        · exact rfl
        go_simp
        refine (refAnd_any _ _ _).mono ?_
        rintro e v3 ⟨rfl, hb3⟩
        refine hK _ _ ?_
        have cR := cR.below hb3 cR.lt
        have b7 := b7.below hb3 b7.lt
        have BC := BC.trans (hb3.mono BC.size)
        clear hb3 hK K
        try (simp only [Act.put, List.setIfInBounds_toArray, List.set_cons_zero, List.set_cons_succ])
        refine' free_sole ?_ ?_ (fun K hK => ?_)
        rotate_left 1
        · simp only [List.getElem?_toArray, List.getElem?_cons_zero, List.getElem?_cons_succ]; exact rfl
        · exact rfl
        refine wp_store_row 31 _ _ rfl w.heap.size _ rfl rfl _ _ cR (infoRef' _) (by rw [bc_size, bc_size]) (bc_one _) ?_
        refine hK _ _ ?_
        clear hK K
        simp only [Act.put, List.setIfInBounds_toArray, List.set_cons_zero, List.set_cons_succ]
        refine' free_plain ?_ ?_ (fun K hK => ?_)
        rotate_left 1
        · simp only [List.getElem?_toArray, List.getElem?_cons_zero, List.getElem?_cons_succ]; exact rfl
        · exact rfl
        go_big_quiet_op
        refine hK _ ?_
        clear hK K
        refine free_done ?_
        try (simp only [Act.put, List.setIfInBounds_toArray, List.set_cons_zero, List.set_cons_succ])
        go_wp2_with fail
        refine bodyPost_ret (v := .tuple #[BV (fun i => (decide (33 ≤ i) && decide (i ≤ 126)) && !rAlnum i), .bool true]) (results_ref Try.results10 _ _ w.heap.size _ rfl (BAt.rowSame cR)) rfl ⟨?_, below_row BC (Nat.le_refl _) _⟩
        rw [hc.out, show BV (fun i => (decide (33 ≤ i) && decide (i ≤ 126)) && !rAlnum i) = BV cPunct.getLsbD from BV_ext (by decide +kernel)]
      · refine' free_step ?_ ?_ (fun K hK => ?_)
        rotate_left 1
        · simp only [List.getElem?_toArray, List.getElem?_cons_zero, List.getElem?_cons_succ]; exact rfl
        · exact rfl
        refine wp_load_row 31 _ rfl B7 rfl _ _ _ _ b7 Try.underlying31 rfl (infoRef' _) ?_
        refine hK _ _ ?_
        clear hK K
        simp only [Act.put, List.setIfInBounds_toArray, List.set_cons_zero, List.set_cons_succ]
        refine' free_sole ?_ ?_ (fun K hK => ?_)
        rotate_left 1
        · simp only [List.getElem?_toArray, List.getElem?_cons_zero, List.getElem?_cons_succ]; exact rfl
        · exact rfl
        go_simp
        refine (hq 33 126 (by omega) (by omega) _).mono ?_
        rintro e v1 ⟨rfl, hb1⟩
        refine hK _ _ ?_
        have cR := cR.below hb1 cR.lt
        have b7 := b7.below hb1 b7.lt
        have BC := BC.trans (hb1.mono BC.size)
        clear hb1 hK K
        refine' free_sole ?_ ?_ (fun K hK => ?_)
        rotate_left 1
        · simp only [List.getElem?_toArray, List.getElem?_cons_zero, List.getElem?_cons_succ]; exact rfl
        · exact rfl
        go_simp
        refine (refNot_any _ _).mono ?_
        rintro e v2 ⟨rfl, hb2⟩
        refine hK _ _ ?_
        have cR := cR.below hb2 cR.lt
        have b7 := b7.below hb2 b7.lt
        have BC := BC.trans (hb2.mono BC.size)
        clear hb2 hK K
        refine' free_sole ?_ ?_ (fun K hK => ?_)
        rotate_left 1
        · simp only [List.getElem?_toArray, List.getElem?_cons_zero, List.getElem?_cons_succ]; exact rfl
        · exact rfl
        go_simp
        refine (refAnd_any _ _ _).mono ?_
        rintro e v3 ⟨rfl, hb3⟩
        refine hK _ _ ?_
        have cR := cR.below hb3 cR.lt
        have b7 := b7.below hb3 b7.lt
        have BC := BC.trans (hb3.mono BC.size)
        clear hb3 hK K
        try (simp only [Act.put, List.setIfInBounds_toArray, List.set_cons_zero, List.set_cons_succ])
        refine' free_sole ?_ ?_ (fun K hK => ?_)
        rotate_left 1
        · simp only [List.getElem?_toArray, List.getElem?_cons_zero, List.getElem?_cons_succ]; exact rfl
        · exact rfl
        refine wp_store_row 31 _ _ rfl w.heap.size _ rfl rfl _ _ cR (infoRef' _) (by rw [bc_size, bc_size]) (bc_one _) ?_
        refine hK _ _ ?_
        clear hK K
        simp only [Act.put, List.setIfInBounds_toArray, List.set_cons_zero, List.set_cons_succ]
        refine' free_plain ?_ ?_ (fun K hK => ?_)
        rotate_left 1
        · simp only [List.getElem?_toArray, List.getElem?_cons_zero, List.getElem?_cons_succ]; exact rfl
        · exact rfl
        go_big_quiet_op
        refine hK _ ?_
        clear hK K
        refine free_done ?_
        try (simp only [Act.put, List.setIfInBounds_toArray, List.set_cons_zero, List.set_cons_succ])
        go_wp2_with fail
        refine bodyPost_ret (v := .tuple #[BV (fun i => (decide (33 ≤ i) && decide (i ≤ 126)) && !rAlnum i), .bool true]) (results_ref Try.results10 _ _ w.heap.size _ rfl (BAt.rowSame cR)) rfl ⟨?_, below_row BC (Nat.le_refl _) _⟩
        rw [hc.out, show BV (fun i => (decide (33 ≤ i) && decide (i ≤ 126)) && !rAlnum i) = BV cPunct.getLsbD from BV_ext (by decide +kernel)]
    replace n9 : (n.toList == [112, 117, 110, 99, 116]) = false := by simpa using n9
    by_cases n10 : (n.toList == [103, 114, 97, 112, 104]) = true
    · have hc : Hid (cl = (cGraph, true)) := Lib.hid (by rw [Hcl.out]; unfold classOf; simp only [n0, n1, n2, n3, n4, n5, n6, n7, n8, n9, n10, Bool.false_eq_true, if_false, if_true])
      have hq := rangeRef_lit 33 126 _ rfl (by decide)
      go_wp2_with fail
      refine (hq 33 126 (by omega) (by omega) _).mono ?_
      rintro e v1 ⟨rfl, hb1⟩
      have cR := cR.below hb1 cR.lt
      have BC := BC.trans (hb1.mono BC.size)
      go_wp2_with (first | (refine wpList_store_row rfl 31 _ _ rfl w.heap.size _ rfl rfl _ _ cR (infoRef' _) (by rw [bc_size, bc_size]) (bc_one _) ?_))
      refine bodyPost_ret (v := .tuple #[BV (fun i => decide (33 ≤ i) && decide (i ≤ 126)), .bool true]) (results_ref Try.results10 _ _ w.heap.size _ rfl (BAt.rowSame cR)) rfl ⟨?_, below_row BC (Nat.le_refl _) _⟩
      rw [hc.out, show BV (fun i => decide (33 ≤ i) && decide (i ≤ 126)) = BV cGraph.getLsbD from BV_ext (by decide +kernel)]
    replace n10 : (n.toList == [103, 114, 97, 112, 104]) = false := by simpa using n10
    by_cases n11 : (n.toList == [112, 114, 105, 110, 116]) = true
    · have hc : Hid (cl = (cPrint, true)) := Lib.hid (by rw [Hcl.out]; unfold classOf; simp only [n0, n1, n2, n3, n4, n5, n6, n7, n8, n9, n10, n11, Bool.false_eq_true, if_false, if_true])
      have hq := rangeRef_lit 32 126 _ rfl (by decide)
      go_wp2_with fail
      refine (hq 32 126 (by omega) (by omega) _).mono ?_
      rintro e v1 ⟨rfl, hb1⟩
      have cR := cR.below hb1 cR.lt
      have BC := BC.trans (hb1.mono BC.size)
      go_wp2_with (first | (refine wpList_store_row rfl 31 _ _ rfl w.heap.size _ rfl rfl _ _ cR (infoRef' _) (by rw [bc_size, bc_size]) (bc_one _) ?_))
      refine bodyPost_ret (v := .tuple #[BV (fun i => decide (32 ≤ i) && decide (i ≤ 126)), .bool true]) (results_ref Try.results10 _ _ w.heap.size _ rfl (BAt.rowSame cR)) rfl ⟨?_, below_row BC (Nat.le_refl _) _⟩
      rw [hc.out, show BV (fun i => decide (32 ≤ i) && decide (i ≤ 126)) = BV cPrint.getLsbD from BV_ext (by decide +kernel)]
    replace n11 : (n.toList == [112, 114, 105, 110, 116]) = false := by simpa using n11
    have hc : Hid (cl = (cNone, false)) := Lib.hid (by rw [Hcl.out]; unfold classOf; simp only [n0, n1, n2, n3, n4, n5, n6, n7, n8, n9, n10, n11, Bool.false_eq_true, if_false])
    have hs := storeCellsRef cR bNone
    go_wp2_with (first | (refine wpList_store_row rfl 31 _ _ rfl w.heap.size _ rfl rfl _ _ cR (infoRef' _) (by rw [bc_size, bc_size]) (bc_one _) ?_))
    refine bodyPost_ret (v := .tuple #[BV bNone, .bool false]) (results_ref Try.results10 _ _ w.heap.size _ rfl (BAt.rowSame cR)) rfl ⟨?_, below_row BC (Nat.le_refl _) _⟩
    rw [hc.out, show BV bNone = BV cNone.getLsbD from BV_ext (by decide +kernel)]
end Go.Proofs.Ytgdkopcfkoikjaa
