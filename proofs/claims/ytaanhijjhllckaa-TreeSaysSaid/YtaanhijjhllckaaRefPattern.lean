/- Law 5's own pattern: a pattern copied into the document's own. -/
import Derived.Test.YtaanhijjhllckaaRefNode
import Derived.Test.YtaanhijjhllckaaRefForm
import Derived.Test.YtaanhijjhllckaaLawTreeParts
import Derived.Test.YtaanhijjhllckaaHold
import Derived.Deep.DeepCutAuto
namespace Go.Proofs.Ytaanhijjhllckaa
set_option maxRecDepth 100000
open Go.RowKit
/-- the cells of the document's own pattern -/
def rpCells (st en : Bool) (cs : List Value) (gr : Int) : List Value := .bool st :: .bool en :: (cs ++ [.int .i64 gr])
theorem rp_length {st en : Bool} {cs : List Value} {gr : Int} (h : cs.length = 261) : (rpCells st en cs gr).length = 264 := by unfold rpCells; simp [h]
/-- the zero pattern of the document's own -/
def zero264 : Array Value := (rpCells false false (rdCells 0 0 0 0 0 (.slice none 0 0)) 0).toArray
theorem zero264_size : zero264.size = 264 := by unfold zero264; rw [List.size_toArray]; exact rp_length (rdCells_length ..)
theorem zeroRefPat (w : World) : (zeroValue 38).run Try.prog w = .ok (.agg zero264) w := by kernel_rfl
theorem infoRefPat : (Try.prog.info? 38).map (·.size) = some 264 := by kernel_rfl
theorem build_refpat (w : World) (st en : Bool) (k : Int) (s : BitVec 256) (lo hi n : Int) (a : Option Addr) (len cap : Nat) (gr : Int) : (Instr.build 38 #[(0, .bool st), (1, .bool en), (2, .agg (rdCells k s lo hi n (.slice a len cap)).toArray), (3, .int .i64 gr)]).run Try.prog w = .ok (.agg (rpCells st en (rdCells k s lo hi n (.slice a len cap)) gr).toArray) w := by kernel_rfl
theorem quiet_build_refpat {o : Oper} {a : Act} {C : World → Prop} {K : Act → Prop} (x0 x1 x2 x3 : Operand) (ho : o.op = .build 38 #[(0, x0), (1, x1), (2, x2), (3, x3)]) (st en : Bool) (k : Int) (s : BitVec 256) (lo hi n : Int) (p : Option Addr) (len cap : Nat) (gr : Int)
    (h0 : a.eval x0 = .bool st) (h1 : a.eval x1 = .bool en) (h2 : a.eval x2 = .agg (rdCells k s lo hi n (.slice p len cap)).toArray) (h3 : a.eval x3 = .int .i64 gr)
    (hK : K (a.put o.dst (.agg (rpCells st en (rdCells k s lo hi n (.slice p len cap)) gr).toArray))) : o.quiet Try.prog a C K :=
  ⟨_, fun w hw => by
    have hm : (#[(0, x0), (1, x1), (2, x2), (3, x3)] : Array (Nat × Operand)).map (fun (i, x) => (i, a.eval x)) = #[(0, .bool st), (1, .bool en), (2, .agg (rdCells k s lo hi n (.slice p len cap)).toArray), (3, .int .i64 gr)] := by simp [h0, h1, h2, h3]
    unfold Oper.quietAt execOp
    simp only [ho, hm, Sem.run_bind, Sem.run_pure, build_refpat, Result.andThen_ok]
    exact ⟨rfl, rfl⟩, hK⟩
/-- a block holds a pattern of the document's own -/
def PBox (w : World) (b : Nat) (cs : Array Value) : Prop := w.heap[b]? = some (.cells cs 38 (0, 0))
theorem infoRefPat' {cs : Array Value} (h : cs.size = 264) : (Try.prog.info? 38).map (·.size) = some cs.size := by rw [h]; exact infoRefPat
theorem rp_one (st en : Bool) (k : Int) (s : BitVec 256) (lo hi n : Int) (a : Option Addr) (len cap : Nat) (gr : Int) : ((rpCells st en (rdCells k s lo hi n (.slice a len cap)) gr).toArray.all fun x => x.oneCell') = true := by
  rw [Array.all_eq_true_iff_forall_mem]
  intro u hu
  rw [List.mem_toArray] at hu
  unfold rpCells at hu
  rw [List.mem_cons, List.mem_cons, List.mem_append, List.mem_singleton] at hu
  rcases hu with rfl | rfl | hu | rfl
  · rfl
  · rfl
  · exact Array.all_eq_true_iff_forall_mem.1 (rd_one k s lo hi n (.slice a len cap) rfl) u (List.mem_toArray.2 hu)
  · rfl
theorem quiet_load_cell {P : Program} {o : Oper} {a : Act} {C : World → Prop} {K : Act → Prop} {t : TypeId} (hagg : ∀ w, (isAgg t).run P w = .ok false w) (x : Operand) (ho : o.op = .load t x) (p : Addr) (v : Value) (hx : a.eval x = .pointer (some p)) (h : ∀ w, C w → w.cell? p = some v)
    (hK : K (a.put o.dst v)) : o.quiet P a C K :=
  ⟨v, fun w hw => by
    have hc := h w hw
    unfold Oper.quietAt execOp
    simp only [ho, hx, Instr.loadAt, Instr.sureAddr, Sem.run_bind, Sem.run_pure, Result.andThen_ok]
    simp [loadVar, hagg, hc]
    exact ⟨rfl, rfl⟩, hK⟩
theorem aggInt (w : World) : (isAgg 3).run Try.prog w = .ok false w := by simp [isAgg, run_underlying Try.underlying3]
theorem aggBool (w : World) : (isAgg 4).run Try.prog w = .ok false w := by simp [isAgg, run_underlying Try.underlying4]
theorem ref_form {w : World} {x : Nd} {cs : List Value} (h : Nd.ref w x cs) : ∃ (k : Int) (s : BitVec 256) (lo hi n : Int) (a : Option Addr) (len cap : Nat), cs = rdCells k s lo hi n (.slice a len cap) := by
  cases x with
  | mk k s lo hi n l =>
    rw [ref_mk] at h
    obtain ⟨_, _, _, _, a, cap, rfl, _⟩ := h
    exact ⟨k, s, lo, hi, n, a, l.length, cap, rfl⟩
set_option maxHeartbeats 8000000 in
theorem lawPattern_any (m : Nat) (x : Nd) (cs : List Value) (st en : Bool) (gr : Int) (w : World) (hm : slimN m x = true) (hat : Nd.at w x cs) :
    Calls Try.prog 6 #[.agg (.bool st :: .bool en :: (cs ++ [.int .i64 gr])).toArray] w fun e w' => ∃ rs : List Value, e = .returned (.agg (rpCells st en rs gr).toArray) ∧ Nd.ref w' x rs ∧ Below w.heap.size w w' := by
  obtain ⟨c0, c1, c2, c3, c4, c5, c6, c7, c8, rfl⟩ : ∃ c0 c1 c2 c3 c4 c5 c6 c7 c8, cs = [c0, c1, c2, c3, c4, c5, c6, c7, c8] := by
    match cs, at_len hat with
    | [c0, c1, c2, c3, c4, c5, c6, c7, c8], _ => exact ⟨_, _, _, _, _, _, _, _, _, rfl⟩
  have hz := zeroRefPat
  have hzs := zero264_size
  obtain ⟨Z, hZ⟩ : ∃ Z, Z = zero264 := ⟨_, rfl⟩
  rw [← hZ] at hz hzs
  obtain ⟨W, hW⟩ : ∃ W, W = (w.alloc (.cells #[.bool st, .bool en, c0, c1, c2, c3, c4, c5, c6, c7, c8, .int .i64 gr] 29)).alloc (.cells Z 38) := ⟨_, rfl⟩
  have hbW : Below w.heap.size w W := by rw [hW]; exact ((Below.refl _ _).alloc (Nat.le_refl _) _).alloc (by simp) _
  have hsW : W.heap.size = w.heap.size + 1 + 1 := by rw [hW]; simp
  have hp : W.heap[w.heap.size]? = some (.cells #[.bool st, .bool en, c0, c1, c2, c3, c4, c5, c6, c7, c8, .int .i64 gr] 29 (0, 0)) := by rw [hW]; exact (Below.heap_alloc _ _ _ (by simp)).trans (World.alloc_heap_new w _)
  have hr : PBox W (w.heap.size + 1) Z := by
    have h := World.alloc_heap_new (w.alloc (.cells #[.bool st, .bool en, c0, c1, c2, c3, c4, c5, c6, c7, c8, .int .i64 gr] 29)) (.cells Z 38)
    rw [World.size_alloc] at h
    rw [hW]; exact h
  have hP : ∀ w', Bar (w.heap.size + 1) W w' → w'.heap[w.heap.size]? = some (.cells #[.bool st, .bool en, c0, c1, c2, c3, c4, c5, c6, c7, c8, .int .i64 gr] 29 (0, 0)) := fun w' h => (h.block _ (by omega) (by omega)).trans hp
  have Hc0 := Lib.hid (fun w' (h : Bar (w.heap.size + 1) W w') => (cells_at (hP w' h) 0))
  have Hc1 := Lib.hid (fun w' (h : Bar (w.heap.size + 1) W w') => (cells_at (hP w' h) 1))
  have Hc11 := Lib.hid (fun w' (h : Bar (w.heap.size + 1) W w') => (cells_at (hP w' h) 11))
  have HN9 := Lib.hid (fun w' (h : Bar (w.heap.size + 1) W w') => cells9at2 (hP w' h) [c0, c1, c2, c3, c4, c5, c6, c7, c8] rfl (root_cells (.bool st) (.bool en) c0 c1 c2 c3 c4 c5 c6 c7 c8 (.int .i64 gr)))
  have HBw : Hid (∀ w', Bar (w.heap.size + 1) W w' → Below w.heap.size w w') := Lib.hid fun w' h => ⟨h.os.trans hbW.os, h.tape.trans hbW.tape, h.output.trans hbW.output, Nat.le_trans hbW.size h.size, fun k hk => (h.block k (by omega) (by omega)).trans (hbW.block k hk)⟩
  have Hcall := Lib.hid (fun w' (h : Bar (w.heap.size + 1) W w') => lawNode_any m x _ w' hm (Nd.at_below (HBw.out w' h) (Nat.le_refl _) _ _ hat))
  have HPB := Lib.hid (fun w' (h : Below W.heap.size W w') => show PBox w' (w.heap.size + 1) Z from (h.block _ (by omega)).trans hr)
  have HW := Lib.hid hsW
  have Hzs := Lib.hid hzs
  clear hbW hsW hp hr hP hzs hat hm hZ
  go_enter Try.func6, Try.ntmps6
  go_upto_region 1 with fail
  rw [← hW]
  clear hW
  obtain ⟨wd, hwd⟩ : ∃ wd, wd = W.drew := ⟨_, rfl⟩
  have hBd : Below W.heap.size W wd := by rw [hwd]; exact (Below.refl _ _).drew
  have hKd : Bar (w.heap.size + 1) W wd := Bar.of_below hBd
  have hPd := HPB.out wd hBd
  have hNE := HeldW.nonempty (S := fun w' => Bar (w.heap.size + 1) W w') hKd
  refine wp_region_hold (fun w' => Bar (w.heap.size + 1) W w') (.plain 0 (.plain 1 (.plain 2 (.plain 3 (.plain 4 (.plain 5 (.plain 7 (.plain 8 (.sole 6 (.plain 9 (.sole 10 .done))))))))))) (by rw [← hwd]; exact hKd) (by kernel_rfl) (by kernel_rfl) (fun c a d v w h => by cases d <;> exact h) ?_
  rw [← hwd]
  clear hwd
  repeat (first
    | (refine' hold_want ?_ ?_ (fun J hJ => ?_)
       rotate_left 1
       · simp only [List.getElem?_toArray, List.getElem?_cons_zero, List.getElem?_cons_succ]; exact rfl
       · exact rfl
       first
       | (refine quiet_load_cell aggBool _ rfl ⟨w.heap.size, 0, none⟩ (.bool st) rfl (fun w' ⟨L, hL⟩ => hL ▸ Hc0.out _ L.ok) ?_; refine hJ _ ?_; clear hJ J; try simp only [Act.put, List.setIfInBounds_toArray, List.set_cons_zero, List.set_cons_succ])
       | (refine quiet_load_cell aggBool _ rfl ⟨w.heap.size, 1, none⟩ (.bool en) rfl (fun w' ⟨L, hL⟩ => hL ▸ Hc1.out _ L.ok) ?_; refine hJ _ ?_; clear hJ J; try simp only [Act.put, List.setIfInBounds_toArray, List.set_cons_zero, List.set_cons_succ])
       | (refine quiet_load_cell aggInt _ rfl ⟨w.heap.size, 11, none⟩ (.int .i64 gr) rfl (fun w' ⟨L, hL⟩ => hL ▸ Hc11.out _ L.ok) ?_; refine hJ _ ?_; clear hJ J; try simp only [Act.put, List.setIfInBounds_toArray, List.set_cons_zero, List.set_cons_succ])
       | (refine quiet_load_node9 _ rfl w.heap.size 2 [c0, c1, c2, c3, c4, c5, c6, c7, c8] rfl (fun w' ⟨L, hL⟩ => hL ▸ HN9.out _ L.ok) ?_; refine hJ _ ?_; clear hJ J; try simp only [Act.put, List.setIfInBounds_toArray, List.set_cons_zero, List.set_cons_succ])
       | (go_big_quiet_op; refine hJ _ ?_; clear hJ J; try simp only [Act.put, List.setIfInBounds_toArray, List.set_cons_zero, List.set_cons_succ])))
  refine' hold_sole ?_ ?_ (fun J hJ => ?_)
  rotate_left 1
  · simp only [List.getElem?_toArray, List.getElem?_cons_zero, List.getElem?_cons_succ]; exact rfl
  · exact rfl
  go_simp
  refine (Hcall.out _ hKd).mono ?_
  rintro e w2 ⟨rs, rfl, hri, hb2⟩
  have hK2 : Bar (w.heap.size + 1) W w2 := hKd.trans (Bar.of_below hb2)
  have hP2 : PBox w2 (w.heap.size + 1) Z := (hb2.block _ (Array.getElem?_eq_some_iff.1 hPd).1).trans hPd
  refine hJ _ _ hK2 ?_
  clear hJ J hb2
  try simp only [Act.put, List.setIfInBounds_toArray, List.set_cons_zero, List.set_cons_succ]
  obtain ⟨k, s, lo, hi, n, p, len, cap, hrs⟩ := ref_form hri.ref
  refine' hold_want ?_ ?_ (fun J hJ => ?_)
  rotate_left 1
  · simp only [List.getElem?_toArray, List.getElem?_cons_zero, List.getElem?_cons_succ]; exact rfl
  · exact rfl
  refine quiet_build_refpat _ _ _ _ rfl st en k s lo hi n p len cap gr rfl rfl (by rw [← hrs]; rfl) rfl ?_
  refine hJ _ ?_
  clear hJ J
  try simp only [Act.put, List.setIfInBounds_toArray, List.set_cons_zero, List.set_cons_succ]
  refine' hold_sole ?_ ?_ (fun J hJ => ?_)
  rotate_left 1
  · simp only [List.getElem?_toArray, List.getElem?_cons_zero, List.getElem?_cons_succ]; exact rfl
  · exact rfl
  have hsz : (rpCells st en (rdCells k s lo hi n (.slice p len cap)) gr).toArray.size = 264 := by rw [List.size_toArray]; exact rp_length (rdCells_length ..)
  refine wp_store_row 38 _ _ rfl (w.heap.size + 1) _ rfl rfl _ _ hP2 (infoRefPat' hsz) (by rw [Hzs.out, hsz]) (rp_one st en k s lo hi n p len cap gr) ?_
  have ho := only_row w2 (w.heap.size + 1) (rpCells st en (rdCells k s lo hi n (.slice p len cap)) gr).toArray
  have hP3 : PBox (w2.setRow (w.heap.size + 1) (rpCells st en (rdCells k s lo hi n (.slice p len cap)) gr).toArray) (w.heap.size + 1) (rpCells st en (rdCells k s lo hi n (.slice p len cap)) gr).toArray := setRow_heap _ _ _ _ _ _ hP2
  generalize w2.setRow (w.heap.size + 1) (rpCells st en (rdCells k s lo hi n (.slice p len cap)) gr).toArray = w3 at ho hP3 ⊢
  have hK3 : Bar (w.heap.size + 1) W w3 := hK2.trans ⟨ho.os, ho.tape, ho.output, Nat.le_of_eq ho.size.symm, fun k _ hR => ho.block k hR⟩
  have hri3 : Nd.ref w3 x rs := (RefIn.mono (q := fun _ => true) hri (Nat.le_of_eq ho.size.symm) (fun k hk _ => ⟨rfl, ho.block k (by have := of_decide_eq_true hk; have h2 := hKd.size; have h3 := HW.out; omega)⟩)).ref
  refine hJ _ _ hK3 ?_
  clear hJ J
  refine hold_done ?_
  have Hend := Lib.hid (HBw.out _ hK3)
  have Hri := Lib.hid hri3
  have HP3 := Lib.hid hP3
  clear hK3 hri3 hK2 hP2 hri hPd hKd hBd hNE
  go_wp2_with fail
  subst hrs
  refine bodyPost_ret (v := .agg (rpCells st en (rdCells k s lo hi n (.slice p len cap)) gr).toArray) (results_cell_row Try.results6 _ _ (w.heap.size + 1) _ _ _ _ rfl HP3.out Try.underlying38 rfl (infoRefPat' hsz)) rfl ⟨_, rfl, Hri.out, Hend.out⟩
end Go.Proofs.Ytaanhijjhllckaa
