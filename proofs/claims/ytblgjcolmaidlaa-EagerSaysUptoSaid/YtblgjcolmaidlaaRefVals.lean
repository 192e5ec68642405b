/- RefValOf, RefValWalks, as one. -/
import Derived.Test.YtblgjcolmaidlaaRefCoreOf
import Derived.Test.YtblgjcolmaidlaaValKit
import Derived.Test.YtblgjcolmaidlaaValOps
namespace Go.Proofs.Ytblgjcolmaidlaa.V
set_option maxRecDepth 100000
open Go.RowKit
open K (veil veil_size veil_block veil_cell)
/-- a value of the document's own that hangs on blocks with p alone -/
def RefIn (p : Nat → Bool) (w : World) (x : Vl) (cs : List Value) : Prop := Vl.at (veil p w) x cs
mutual
theorem Vl.at_same2 {w w' : World} (h : ∀ p v, w.cell? p = some v → w'.cell? p = some v) (hs : w.heap.size ≤ w'.heap.size) : ∀ (x : Vl) (cs : List Value), Vl.at w x cs → Vl.at w' x cs
  | .mk k z l, cs, ha => by
    rw [at_mk] at ha ⊢
    obtain ⟨h1, h4, a, cap, h5, h6, h7⟩ := ha
    refine ⟨h1, h4, a, cap, h5, h6, ?_⟩
    rcases h7 with h7 | ⟨b, off, e1, e2, e3, e4⟩
    · exact .inl h7
    · exact .inr ⟨b, off, e1, e2, Nat.lt_of_lt_of_le e3 hs, valsAt_same2 h hs l b off e4⟩
theorem valsAt_same2 {w w' : World} (h : ∀ p v, w.cell? p = some v → w'.cell? p = some v) (hs : w.heap.size ≤ w'.heap.size) : ∀ (l : List Vl) (b off : Nat), valsAt w l b off → valsAt w' l b off
  | [], b, off, _ => by rw [valsAt_nil]; trivial
  | x :: l, b, off, ha => by
    rw [valsAt_cons] at ha ⊢
    obtain ⟨⟨cs, h1, h2, h3⟩, h4⟩ := ha
    refine ⟨⟨cs, h1, fun q hq => ?_, Vl.at_same2 h hs x cs h3⟩, valsAt_same2 h hs l b (off + 3) h4⟩
    have h5 := h2 q hq
    rw [List.getElem?_eq_getElem (by omega)] at h5 ⊢
    exact h _ _ h5
end
theorem RefIn.mono {p q : Nat → Bool} {w w' : World} {x : Vl} {cs : List Value} (h : RefIn p w x cs) (hs : w.heap.size ≤ w'.heap.size) (hk : ∀ k, p k = true → k < w.heap.size → q k = true ∧ w'.heap[k]? = w.heap[k]?) : RefIn q w' x cs := by
  refine Vl.at_same2 (fun a v ha => ?_) (by rw [veil_size, veil_size]; exact hs) x cs h
  obtain ⟨h1, h2⟩ := veil_cell ha
  have h3 := hk _ h1 (World.block_lt_of_cell? w _ h2)
  rw [World.cell?_of_block (veil_block h3.1), World.cell?_of_block h3.2]
  exact h2
theorem RefIn.ref {p : Nat → Bool} {w : World} {x : Vl} {cs : List Value} (h : RefIn p w x cs) : Vl.at w x cs :=
  Vl.at_same2 (fun _ _ ha => (veil_cell ha).2) (by rw [veil_size]; exact Nat.le_refl _) x cs h
theorem refIn_len {p : Nat → Bool} {w : World} {x : Vl} {cs : List Value} (h : RefIn p w x cs) : cs.length = 3 := at_len h.ref
def rv3 (k : Int) (z : Nat) (v : Value) : List Value := [.int .i64 k, .int .u8 z, v]
theorem rv3_length (k : Int) (z : Nat) (v : Value) : (rv3 k z v).length = 3 := rfl
theorem refv_slice {w : World} {b : Nat} {k : Int} {z : Nat} {v : Value} (h : w.heap[b]? = some (.cells (rv3 k z v).toArray 35)) : w.cell? ⟨b, 2, none⟩ = some v := by
  rw [cells_at h]; rfl
def zero3 : Array Value := #[.int .i64 0, .int .u8 0, .slice none 0 0]
theorem infoRefVal : (Try.prog.info? 35).map (·.size) = some 3 := by kernel_rfl
theorem infoRefVal' {cs : Array Value} (h : cs.size = 3) : (Try.prog.info? 35).map (·.size) = some cs.size := by rw [h]; exact infoRefVal
theorem loadRefVal {w : World} {b off : Nat} {cs : List Value} (h : Val3 w b off cs) : (loadVar 35 ⟨b, off, none⟩).run Try.prog w = .ok (.agg cs.toArray) w := by
  have hl := run_loadCells_list (P := Try.prog) w ⟨b, off, none⟩ cs (fun j v hv => by
    have hj : j < 3 := by have := (List.getElem?_eq_some_iff.mp hv).1; rw [h.1] at this; exact this
    rw [addr_at, h.2 j hj]; exact hv)
  have hi := infoRefVal
  rw [h.1] at hl
  cases hq : Try.prog.info? 35 with
  | none => simp [hq] at hi
  | some i =>
    have hs : i.size = 3 := by simpa [hq] using hi
    have hagg : (isAgg 35).run Try.prog w = .ok true w := by
      unfold isAgg
      rw [Sem.run_bind, run_underlying Try.underlying35 w]
      rfl
    simp [loadVar, Sem.run_bind, hagg, sizeOf, typeInfo, hq, hs, hl]
theorem wpList_load_refval {ops : Array Oper} {rest : List Oper} {o : Oper} {a : Act} {w : World} {Q : Exit → Act → World → Prop} (hgd : o.guard = none) (x : Operand) (ho : o.op = .load 35 x)
    (b off : Nat) (cs : List Value) (hx : a.eval x = .pointer (some ⟨b, off, none⟩)) (hc : Val3 w b off cs)
    (h : wpList Try.prog ops Q rest (a.put o.dst (.agg cs.toArray)) w) : wpList Try.prog ops Q (o :: rest) a w :=
  wpList_plain hgd fun _ hK => by
    unfold Oper.wp execOp
    simp only [ho, hx, Instr.loadAt, Instr.sureAddr, Sem.run_bind, Sem.run_pure, Result.andThen_ok, loadRefVal hc]
    exact hK _ _ h
theorem wpList_load_refval_want {ops : Array Oper} {rest : List Oper} {o : Oper} {a : Act} {w : World} {Q : Exit → Act → World → Prop} (hw : Region.wanted o (yielded ops a.tmps) = true) (x : Operand) (ho : o.op = .load 35 x)
    (b off : Nat) (cs : List Value) (hx : a.eval x = .pointer (some ⟨b, off, none⟩)) (hc : Val3 w b off cs)
    (h : wpList Try.prog ops Q rest (a.put o.dst (.agg cs.toArray)) w) : wpList Try.prog ops Q (o :: rest) a w :=
  BigFrame.wpList_want hw fun _ hK => by
    unfold Oper.wp execOp
    simp only [ho, hx, Instr.loadAt, Instr.sureAddr, Sem.run_bind, Sem.run_pure, Result.andThen_ok, loadRefVal hc]
    exact hK _ _ h
theorem quiet_load_refval {o : Oper} {a : Act} {C : World → Prop} {K : Act → Prop} (x : Operand) (ho : o.op = .load 35 x) (b off : Nat) (cs : List Value) (hx : a.eval x = .pointer (some ⟨b, off, none⟩))
    (h : ∀ w, C w → Val3 w b off cs) (hK : K (a.put o.dst (.agg cs.toArray))) : o.quiet Try.prog a C K :=
  ⟨.agg cs.toArray, fun w hw => by
    unfold Oper.quietAt execOp
    simp only [ho, hx, Instr.loadAt, Instr.sureAddr, Sem.run_bind, Sem.run_pure, Result.andThen_ok, loadRefVal (h w hw)]
    exact ⟨rfl, rfl⟩, hK⟩
/-- a block holds a value of the document's own -/
def RBox (w : World) (b : Nat) (cs : Array Value) : Prop := w.heap[b]? = some (.cells cs 35 (0, 0))
theorem rbox_start (w : World) (cs : Array Value) : RBox (w.alloc (.cells cs 35)) w.heap.size cs := World.alloc_heap_new w _
theorem RBox.lt {w : World} {b : Nat} {cs : Array Value} (h : RBox w b cs) : b < w.heap.size := (Array.getElem?_eq_some_iff.1 h).1
theorem RBox.below {w w' : World} {b : Nat} {cs : Array Value} (h : RBox w b cs) {B : Nat} (hb : Below B w w') (hB : b < B) : RBox w' b cs := (hb.block b hB).trans h
theorem RBox.alloc {w : World} {b : Nat} {cs : Array Value} (h : RBox w b cs) (o : Obj) : RBox (w.alloc o) b cs := (Below.heap_alloc w o b h.lt).trans h
theorem rd_one (k : Int) (z : Nat) (v : Value) (hv : v.oneCell' = true) : ((rv3 k z v).toArray.all fun x => x.oneCell') = true := by
  simp only [rv3, List.all_toArray, List.all_cons, List.all_nil, hv, Bool.and_true]
  rfl
theorem refIn_made {p : Nat → Bool} {w : World} {base : Nat} {k : Int} {z : Nat} {v : Value} {l : List Vl} (hf : fits64 k ∧ z < 256) (L : List (Vl × List Value)) (hL : L.map (·.1) = l) (hmax : l.length ≤ maxLen)
    (h : ∀ q ∈ L, RefIn p w q.1 q.2) (hp : ∀ k, base ≤ k → p k = true) (ho : w.ownsRow base 35 3 v l.length (L.flatMap (·.2))) : RefIn p w (.mk k z l) (rv3 k z v) := by
  unfold RefIn
  rw [at_mk]
  rcases ho.2 with ⟨rfl, h0⟩ | ⟨g, cap, cur, rfl, hb, hg, hc, hm, hs, htake⟩
  · exact ⟨hf.1, hf.2, none, 0, by rw [h0]; rfl, hmax, .inl h0⟩
  · refine ⟨hf.1, hf.2, some ⟨g, 0, none⟩, cap, rfl, hmax, .inr ⟨g, 0, rfl, hc, by rw [veil_size]; exact (Array.getElem?_eq_some_iff.1 hg).1, ?_⟩⟩
    subst hL
    refine valsAt_cells L 0 h fun q hq => ?_
    have hlen := ho.1
    rw [List.length_map] at hlen
    obtain ⟨u, hu⟩ : ∃ u, (L.flatMap (·.2))[q]? = some u := ⟨_, List.getElem?_eq_getElem (by omega)⟩
    have := ho.cells (g := g) rfl q u hu
    rw [addr_at] at this
    rw [World.cell?_of_block (veil_block (hp g hb)), this, hu]
theorem info_refval : (Try.prog.info? 35).map (fun i => (i.zero, i.size, i.bytes)) = some (some (.agg zero3), 3, 40) := by kernel_rfl
theorem ref_one_cells {p : Nat → Bool} {w : World} {x : Vl} {cs : List Value} (h : RefIn p w x cs) : ∀ u ∈ cs, u.oneCell' = true := at_cell_one h.ref
theorem rd_set (k : Int) (z : Nat) (v u : Value) : (rv3 k z v).toArray.setIfInBounds 2 u = (rv3 k z u).toArray := by simp [rv3]
theorem wp_load_val {o : Oper} {a : Act} {w : World} {K : Act → World → Prop} {Q : Exit → Act → World → Prop} (x : Operand) (ho : o.op = .load 25 x) (b off : Nat) (cs : List Value) (hx : a.eval x = .pointer (some ⟨b, off, none⟩)) (hc : Val3 w b off cs)
    (h : K (a.put o.dst (.agg cs.toArray)) w) : o.wp Try.prog a w K Q := by
  unfold Oper.wp execOp
  simp only [ho, hx, Instr.loadAt, Instr.sureAddr, Sem.run_bind, Sem.run_pure, Result.andThen_ok, loadVal hc]
  exact h
theorem foldl_put_zip : ∀ (l : List Value) (k : Nat) (Z : Array Value), Z.size = k + l.length → (l.zipIdx k).foldl (fun cs x => cs.setIfInBounds (0 + x.2) x.1) Z = (Z.toList.take k ++ l).toArray
  | [], k, Z, h => by
    simp at h
    simp [← h, ← Array.length_toList]
  | v :: l, k, Z, h => by
    rw [List.zipIdx_cons, List.foldl_cons, foldl_put_zip l (k + 1) _ (by simp at h ⊢; omega)]
    congr 1
    simp only [Nat.zero_add, Array.toList_setIfInBounds]
    rw [List.take_succ_eq_append_getElem (by simp at h ⊢; omega), List.take_set_of_le (by omega)]
    simp
theorem fill_refval (rs : List Value) (h : rs.length = 3) (Z : Array Value) (hZ : Z.size = 3) : Instr.fill (fun i => some (i * 3, 3)) Z [(0, .agg rs.toArray)] = some rs.toArray := by
  have hcs : (Value.agg rs.toArray).cells = rs.toArray := rfl
  simp only [Instr.fill, hcs, List.size_toArray, h, hZ]
  simp only [Nat.zero_mul, Nat.zero_add, ne_eq, not_true_eq_false, decide_false, Bool.false_or, gt_iff_lt, Nat.lt_irrefl, Bool.false_eq_true, if_false, Option.some.injEq]
  rw [← Array.foldl_toList, Array.toList_zipIdx]
  have := foldl_put_zip rs 0 Z (by rw [h, hZ])
  simpa using this
theorem build_refrow (w : World) (rs : List Value) (h : rs.length = 3) : (Instr.buildSlice 33 1 #[(0, .agg rs.toArray)]).run Try.prog w = .ok (.slice (some ⟨w.heap.size, 0, none⟩) 1 1) (w.alloc (.cells rs.toArray 35)) := by
  obtain ⟨i0, hi, hz0, hz1, hz2⟩ := info_parts info_refval
  have hcz : (Value.agg zero3).cells = zero3 := rfl
  have hZ : (((Array.range 3).map fun i => (Value.agg zero3).cells[i % (Value.agg zero3).cells.size]!)).size = 3 := by simp
  have hf := fill_refval rs h _ hZ
  unfold Instr.buildSlice
  simp only [Sem.run_bind, run_underlying Try.underlying33, Result.andThen_ok, sizeOf, typeInfo, Sem.run_pure, Nat.one_mul]
  have hf' : Instr.fill (fun i => some (i * 3, 3)) (Array.map (fun x => (Value.agg #[.int .i64 0, .int .u8 0, .slice none 0 0]).cells[x % (Value.agg #[.int .i64 0, .int .u8 0, .slice none 0 0]).cells.size]!) (Array.range 3)) [(0, .agg rs.toArray)] = some rs.toArray := hf
  simp [newRow, hi, hz1]
  rw [hf']
  simp
theorem wp_build_refrow {o : Oper} {a : Act} {w : World} {K : Act → World → Prop} {Q : Exit → Act → World → Prop} (x : Operand) (ho : o.op = .buildSlice 33 1 #[(0, x)]) (rs : List Value) (hrs : rs.length = 3) (hx : a.eval x = .agg rs.toArray)
    (h : K (a.put o.dst (.slice (some ⟨w.heap.size, 0, none⟩) 1 1)) (w.alloc (.cells rs.toArray 35))) : o.wp Try.prog a w K Q := by
  have hm : (#[(0, x)] : Array (Nat × Operand)).map (fun (i, x) => (i, a.eval x)) = #[(0, .agg rs.toArray)] := by simp [hx]
  unfold Oper.wp execOp
  simp only [ho, hm, Sem.run_bind, Sem.run_pure, build_refrow w rs hrs, Result.andThen_ok]
  exact h
theorem wp_append_refval {o : Oper} {a : Act} {w : World} {K : Act → World → Prop} {Q : Exit → Act → World → Prop} (s x : Operand) (ho : o.op = .call { callee := .builtin .append, args := #[s, x], argTypes := #[33, 33] })
    (base : Nat) (v : Value) (n : Nat) (xs : List Value) (hs : a.eval s = v) (hown : w.ownsRow base 35 3 v n xs) (b : Nat) (cs : List Value) (hx : a.eval x = .slice (some ⟨b, 0, none⟩) 1 1) (hc : RBox w b cs.toArray) (hcl : cs.length = 3)
    (h1 : ∀ u ∈ cs, u.oneCell' = true) (hn : n < 400000000000) (hbase : base ≤ w.heap.size)
    (h : ∀ v' w', w'.ownsRow base 35 3 v' (n + 1) (xs ++ cs) → w.grownBy w' v.ownBlock → (v'.ownBlock = v.ownBlock ∨ v'.ownBlock = some w.heap.size) → K (a.put o.dst v') w') : o.wp Try.prog a w K Q := by
  obtain ⟨i0, hi, hz0, hz1, hz2⟩ := info_parts info_refval
  have hnews : ∀ j u, cs[j]? = some u → w.cell? ((⟨b, 0, none⟩ : Addr).add j) = some u := by
    intro j u hj
    rw [addr_at, cells_at hc, Nat.zero_add]
    simpa using hj
  obtain ⟨v', w', hr, h2, h3, _, h5⟩ := run_append_own_at (P := Try.prog) (w := w) base 33 o.type 35 i0 (.agg zero3) 3 40 Try.underlying33 hi hz0 hz1 hz2 (show zero3.size = 3 from rfl) (by decide) v n xs hown ⟨b, 0, none⟩ 1 1 cs (by rw [hcl]) hnews h1 (by unfold maxLen; omega) (by omega) hbase
  unfold Oper.wp execOp
  simp only [ho, resolve, invoke, builtin, Sem.run_bind, Sem.run_pure, Result.andThen_ok, List.map_toArray, List.map_cons, List.map_nil, hs, hx, hr]
  exact h v' w' h2 h3 h5
theorem rbox_free {w : World} {b : Nat} {cs : Array Value} (h : RBox w b cs) (o : Nat) : w.frozen? ⟨b, o, none⟩ = false := by
  unfold RBox at h
  simp [World.frozen?, h]
/-- what the loop holds -/
def NLoop (W2 wc : World) (b3 : Nat) (k : Int) (z : Nat) (l : List Vl) (j : Nat) (v : Value) (acc : List (Vl × List Value)) (wr : World) : Prop :=
  (acc.length = j ∧ acc.map (·.1) = l.take j) ∧ (∀ p ∈ acc, RefIn (fun k => decide (wc.heap.size ≤ k) && decide (v.ownBlock ≠ some k)) wr p.1 p.2) ∧ RBox wr b3 (rv3 k z v).toArray ∧ wr.ownsRow wc.heap.size 35 3 v j (acc.flatMap (·.2)) ∧ Below W2.heap.size W2 wr ∧ wc.heap.size ≤ wr.heap.size
theorem nloop_box {W2 wc wr w3 w5 : World} {b3 : Nat} {k : Int} {z : Nat} {l : List Vl} {j : Nat} {v : Value} {acc : List (Vl × List Value)} {o : Obj} (h : NLoop W2 wc b3 k z l j v acc wr) (hbc : b3 < wc.heap.size) (hb : Below wr.heap.size wr w3)
    (hg : (w3.alloc o).grownBy w5 v.ownBlock) : RBox w5 b3 (rv3 k z v).toArray := by
  have h3 := h.2.2.1.below hb h.2.2.1.lt
  have h4 := h3.alloc o
  exact (hg.block b3 h4.lt (fun e => by have := (h.2.2.2.1.lt b3 e.symm).1; omega)).trans h4
theorem nloop_step {W2 wc wr w3 w5 : World} {b3 : Nat} {k : Int} {z : Nat} {l : List Vl} {j : Nat} {v v' : Value} {acc : List (Vl × List Value)} {rs : List Value} {o : Obj} (h : NLoop W2 wc b3 k z l j v acc wr) (hj : j < l.length) (hb3 : W2.heap.size ≤ b3) (hbc : b3 < wc.heap.size)
    (hb : Below wr.heap.size wr w3) (hr : RefIn (fun k => decide (wr.heap.size ≤ k)) w3 l[j] rs) (ho : w5.ownsRow wc.heap.size 35 3 v' (j + 1) (acc.flatMap (·.2) ++ rs)) (hg : (w3.alloc o).grownBy w5 v.ownBlock)
    (hf : v'.ownBlock = v.ownBlock ∨ v'.ownBlock = some (w3.alloc o).heap.size) : NLoop W2 wc b3 k z l (j + 1) v' (acc ++ [(l[j], rs)]) (w5.setCell ⟨b3, 2, none⟩ v') := by
  have hbox := nloop_box h hbc hb hg
  obtain ⟨⟨h1, h2⟩, hin, hbx, hown, hbel, hsz⟩ := h
  have hs3 := hb.size
  have hs5 := hg.size
  rw [World.size_alloc] at hs5 hf
  have hv : ∀ g, v.ownBlock = some g → wc.heap.size ≤ g ∧ g < wr.heap.size := hown.lt
  have hkeep : ∀ q, q < w3.heap.size → q ≠ b3 → v.ownBlock ≠ some q → (w5.setCell ⟨b3, 2, none⟩ v').heap[q]? = w3.heap[q]? := fun q hq hne hvq => by
    rw [heap_setCell_other _ _ _ _ hne, hg.block q (by simp; omega) (fun e => hvq e.symm)]
    exact Below.heap_alloc _ _ _ hq
  have hv' : ∀ q, wc.heap.size ≤ q → q < w3.heap.size → v.ownBlock ≠ some q → v'.ownBlock ≠ some q := fun q _ hq hne e => by
    rcases hf with hf | hf
    · exact hne (by rw [← hf, e])
    · rw [hf] at e; injection e with e; omega
  refine ⟨⟨by simp [h1], by rw [List.map_append, h2, List.take_succ_eq_append_getElem hj]; rfl⟩, ?_, ?_, ?_, ?_, by simp; omega⟩
  · intro p hp
    rcases List.mem_append.1 hp with hp | hp
    · refine (hin p hp).mono (by simp; omega) fun q hq hlt => ?_
      simp only [Bool.and_eq_true, decide_eq_true_eq] at hq ⊢
      refine ⟨⟨hq.1, hv' q hq.1 (by omega) hq.2⟩, ?_⟩
      rw [hkeep q (by omega) (by omega) hq.2, hb.block q hlt]
    · simp only [List.mem_singleton] at hp
      subst hp
      refine hr.mono (by simp; omega) fun q hq hlt => ?_
      simp only [Bool.and_eq_true, decide_eq_true_eq] at hq ⊢
      have hne : v.ownBlock ≠ some q := fun e => by have := (hv q e).2; omega
      exact ⟨⟨by omega, hv' q (by omega) hlt hne⟩, hkeep q hlt (by omega) hne⟩
  · show RBox _ _ _
    rw [← rd_set k z v v']
    exact heap_setCell_same w5 b3 2 _ _ v' hbox
  · rw [List.flatMap_append]
    have h := ownsRow_setCell_below ho (a := ⟨b3, 2, none⟩) hbc v'
    simpa using h
  · have hb5 : Below W2.heap.size W2 w5 := hbel.trans ⟨hg.os.trans hb.os, hg.tape.trans hb.tape, hg.output.trans hb.output, by omega, fun q hq => by
      have := hbel.size
      rw [hg.block q (by simp; omega) (fun e => by have := (hv q e.symm).1; omega), Below.heap_alloc _ _ _ (by omega)]
      exact hb.block q (by omega)⟩
    exact hb5.setCell hb3 _
/-- no list of the value is too long -/
def slimV : Nat → Vl → Bool
  | 0, _ => false
  | f + 1, .mk _ _ l => decide (l.length ≤ 1000000) && l.all (slimV f)
set_option maxHeartbeats 8000000 in
theorem lawVal_any : ∀ (m : Nat) (x : Vl) (cs : List Value) (w : World), slimV m x = true → Vl.at w x cs →
    Calls Try.prog 16 #[.agg cs.toArray] w fun e w' => ∃ rs : List Value, e = .returned (.agg rs.toArray) ∧ RefIn (fun k => decide (w.heap.size ≤ k)) w' x rs ∧ Below w.heap.size w w'
  | 0, x, _, _, h, _ => absurd h (by rw [slimV]; simp)
  | m + 1, x, cs, w, hm, hat => by
    obtain ⟨k, z, l⟩ := x
    rw [at_mk] at hat
    obtain ⟨hfk, hfz, a, cap, rfl, hmax, hl⟩ := hat
    have hmx : (l.length : Int) ≤ 9223372036854775807 := by unfold maxLen at hmax; omega
    rw [slimV, Bool.and_eq_true, decide_eq_true_eq, List.all_eq_true] at hm
    have Hm := Lib.hid hm
    have Hf := Lib.hid (And.intro hfk hfz)
    have Hih := Lib.hid (lawVal_any m)
    have Hl := Lib.hid hl
    have Hmax := Lib.hid hmax
    obtain ⟨W2, hW2⟩ : ∃ W2, W2 = (w.alloc (.cells #[.int .i64 k, .int .u8 z, .slice a l.length cap] 25)).alloc (.cells zero3 35) := ⟨_, rfl⟩
    have hb2 : Below w.heap.size w W2 := by rw [hW2]; exact ((Below.refl _ _).alloc (Nat.le_refl _) _).alloc (by simp) _
    have hs2 : W2.heap.size = w.heap.size + 1 + 1 := by rw [hW2]; simp
    have hn2 : ValIn W2 w.heap.size #[.int .i64 k, .int .u8 z, .slice a l.length cap] := by
      rw [hW2]; exact (Below.heap_alloc _ _ _ (by simp)).trans (World.alloc_heap_new w _)
    have hr2 : RBox W2 (w.heap.size + 1) zero3 := by rw [hW2]; have h := rbox_start (w.alloc (.cells #[.int .i64 k, .int .u8 z, .slice a l.length cap] 25)) zero3; simpa using h
    have HW := Lib.hid (And.intro hb2 (And.intro hs2 (And.intro hn2 hr2)))
    have q0 := cells_at hn2 0
    have q1 := cells_at hn2 1
    simp only [List.getElem?_toArray, List.getElem?_cons_zero, List.getElem?_cons_succ] at q0 q1
    have hW2' : (w.alloc (.cells #[.int .i64 k, .int .u8 z, .slice a l.length cap] 25)).alloc (.cells #[.int .i64 0, .int .u8 0, .slice none 0 0] 35) = W2 := hW2.symm
    obtain ⟨wc, hwc⟩ : ∃ wc, wc = W2.alloc (.cells #[.int .i64 k, .int .u8 z, .slice none 0 0] 35) := ⟨_, rfl⟩
    obtain ⟨b3, hb3e⟩ : ∃ b3, b3 = W2.heap.size := ⟨_, rfl⟩
    have hbx : RBox wc b3 (rv3 k z (.slice none 0 0)).toArray := by rw [hwc, hb3e]; exact rbox_start _ _
    have hbel : Below W2.heap.size W2 wc := by rw [hwc]; exact K.alloc_below _ _
    have hb3 : W2.heap.size ≤ b3 := by rw [hb3e]; exact Nat.le_refl _
    clear hm hfk hfz hl hmax hW2 hb2 hs2 hn2 hr2
    go_enter Try.func16, Try.ntmps16
    go_upto_region 1 with fail
    try rw [hW2']
    clear hW2'
    go_upto_region 2 with fail
    rw [← hwc, ← hb3e]
    clear hwc hb3e q0 q1
    have hb3 := hb3
    have HB3 := Lib.hid (And.intro hb3 hbx.lt)
    have Hbx := Lib.hid hbx
    have Hbel := Lib.hid hbel
    have Hwlt := Lib.hid (show w.heap.size < W2.heap.size ∧ w.heap.size + 1 < W2.heap.size by have := HW.out.2.1; omega)
    have c8 : wc.cell? ⟨w.heap.size, 2, none⟩ = some (.slice a l.length cap) := by
      rw [hbel.cell (p := ⟨w.heap.size, 2, none⟩) Hwlt.out.1, cells_at HW.out.2.2.1]; rfl
    have HC8 := Lib.hid c8
    clear c8 hbx hbel hb3
    go_upto_region 3 with fail
    go_loopw [4] (fun i wr => ∃ (j : Nat) (v : Value) (acc : List (Vl × List Value)), i = .int .i64 j ∧ j ≤ l.length ∧ Hid (NLoop W2 wc b3 k z l j v acc wr)) (fun i _ => l.length - (intOf i).toNat)
    case atStart => exact ⟨0, .slice none 0 0, [], rfl, Nat.zero_le _, ⟨rfl, rfl⟩, (fun p hp => by cases hp), Hbx.out, World.ownsRow_nil _ _ _ _, Hbel.out, Nat.le_refl _⟩
    case round =>
      obtain ⟨j, v, acc, rfl, hj, HNL⟩ := hrel
      have Bw : Below w.heap.size w wr := HW.out.1.trans (HNL.out.2.2.2.2.1.mono HW.out.1.size)
      have c8 : wr.cell? ⟨w.heap.size, 2, none⟩ = some (.slice a l.length cap) := by
        rw [HNL.out.2.2.2.2.1.cell (p := ⟨w.heap.size, 2, none⟩) Hwlt.out.1, cells_at HW.out.2.2.1]; rfl
      by_cases hjl : j < l.length
      · have d1 : decide ((j : Int) < l.length) = true := by simp; omega
        have Hjl := Lib.hid hjl
        obtain ⟨b, off, rfl, hcap, hbw, hnodes⟩ : ∃ b off, a = some ⟨b, off, none⟩ ∧ l.length ≤ cap ∧ b < w.heap.size ∧ valsAt w l b off := by
          rcases Hl.out with h | h
          · omega
          · exact h
        obtain ⟨cs, hcell, hchild⟩ := vals_get w b l off hnodes j hjl
        have hcnt : slimV m l[j] = true := Hm.out.2 _ (List.getElem_mem hjl)
        have hdrew : Below wr.heap.size wr wr.drew := (Below.refl _ _).drew
        have hcall := fun w' (hb : Below wr.heap.size wr w') => Hih.out l[j] cs w' hcnt (Vl.at_below (Bw.trans (hb.mono Bw.size)) (Nat.le_refl _) _ _ hchild)
        have h9 : Val3 wr.drew b (off + j * 3) cs := hcell.below hbw Bw.drew
        have hq : wr.drew.cell? ⟨b3, 2, none⟩ = some v := refv_slice HNL.out.2.2.1
        have c8d : wr.drew.cell? ⟨w.heap.size, 2, none⟩ = some (.slice (some ⟨b, off, none⟩) l.length cap) := c8
        have HjN := Lib.hid (show j < 400000000000 by have := Hm.out.1; omega)
        clear hcell hchild hcnt hnodes hcap
        go_wp2_with fail
        refine wp_region_free (.plain 0 (.plain 2 (.plain 4 (.fork 1 (.sole 3 (.plain 5 (.sole 6 (.sole 7 (.sole 8 (.sole 9 (.plain 10 (.sole 11 .done)))))))) 3 (.plain 5 (.fork 1 (.sole 6 (.sole 7 (.sole 8 (.sole 9 (.plain 10 (.sole 11 .done)))))) 6 (.fork 1 (.sole 7 (.sole 8 (.sole 9 (.plain 10 (.sole 11 .done))))) 7 (.fork 1 (.sole 8 (.sole 9 (.plain 10 (.sole 11 .done)))) 8 (.sole 1 (.sole 9 (.plain 10 (.sole 11 .done)))))))))))) (by kernel_rfl) (by kernel_rfl) (fun c a d v w h => by cases d <;> exact h) ?_
        refine' free_plain ?_ ?_ (fun K hK => ?_)
        rotate_left 1
        · simp only [List.getElem?_toArray, List.getElem?_cons_zero]; exact rfl
        · exact rfl
        go_big_quiet_op
        refine hK _ ?_
        clear hK K
        try simp only [Act.put, List.setIfInBounds_toArray, List.set_cons_zero, List.set_cons_succ]
        refine' free_plain ?_ ?_ (fun K hK => ?_)
        rotate_left 1
        · simp only [List.getElem?_toArray, List.getElem?_cons_zero, List.getElem?_cons_succ]; exact rfl
        · exact rfl
        go_big_quiet_op
        refine hK _ ?_
        clear hK K
        try simp only [Act.put, List.setIfInBounds_toArray, List.set_cons_zero, List.set_cons_succ]
        refine' free_plain ?_ ?_ (fun K hK => ?_)
        rotate_left 1
        · simp only [List.getElem?_toArray, List.getElem?_cons_zero, List.getElem?_cons_succ]; exact rfl
        · exact rfl
        go_big_quiet_op
        refine hK _ ?_
        clear hK K
        try simp only [Act.put, List.setIfInBounds_toArray, List.set_cons_zero, List.set_cons_succ]
        refine free_fork ?_ ?_
        · refine' free_step ?_ ?_ (fun K hK => ?_)
          rotate_left 1
          · simp only [List.getElem?_toArray, List.getElem?_cons_zero, List.getElem?_cons_succ]; exact rfl
          · exact rfl
          unfold Oper.wp execOp
          go_simp
          refine hK _ _ ?_
          clear hK K
          try simp only [Act.put, List.setIfInBounds_toArray, List.set_cons_zero, List.set_cons_succ]
          refine' free_sole ?_ ?_ (fun K hK => ?_)
          rotate_left 1
          · simp only [List.getElem?_toArray, List.getElem?_cons_zero, List.getElem?_cons_succ]; exact rfl
          · exact rfl
          unfold Oper.wp execOp
          go_simp
          refine hK _ _ ?_
          clear hK K
          try simp only [Act.put, List.setIfInBounds_toArray, List.set_cons_zero, List.set_cons_succ]
          refine' free_plain ?_ ?_ (fun K hK => ?_)
          rotate_left 1
          · simp only [List.getElem?_toArray, List.getElem?_cons_zero, List.getElem?_cons_succ]; exact rfl
          · exact rfl
          go_big_quiet_op
          refine hK _ ?_
          clear hK K
          try simp only [Act.put, List.setIfInBounds_toArray, List.set_cons_zero, List.set_cons_succ]
          refine' free_sole ?_ ?_ (fun K hK => ?_)
          rotate_left 1
          · simp only [List.getElem?_toArray, List.getElem?_cons_zero, List.getElem?_cons_succ]; exact rfl
          · exact rfl
          refine wp_load_val _ rfl b (off + j * 3) cs rfl h9 ?_
          refine hK _ _ ?_
          clear hK K
          try simp only [Act.put, List.setIfInBounds_toArray, List.set_cons_zero, List.set_cons_succ]
          refine' free_sole ?_ ?_ (fun K hK => ?_)
          rotate_left 1
          · simp only [List.getElem?_toArray, List.getElem?_cons_zero, List.getElem?_cons_succ]; exact rfl
          · exact rfl
          go_simp
          refine (hcall _ hdrew).mono ?_
          rintro e w3 ⟨rs, rfl, hrind, hb3d⟩
          have hb3 : Below wr.heap.size wr w3 := hdrew.trans (hb3d.mono hdrew.size)
          have hrin : RefIn (fun k => decide (wr.heap.size ≤ k)) w3 l[j] rs := hrind
          clear hb3d hrind
          have q3 : w3.cell? ⟨b3, 2, none⟩ = some v := (hb3.cell (p := ⟨b3, 2, none⟩) HNL.out.2.2.1.lt).trans hq
          refine hK _ _ ?_
          clear hK K
          try simp only [Act.put, List.setIfInBounds_toArray, List.set_cons_zero, List.set_cons_succ]
          refine' free_sole ?_ ?_ (fun K hK => ?_)
          rotate_left 1
          · simp only [List.getElem?_toArray, List.getElem?_cons_zero, List.getElem?_cons_succ]; exact rfl
          · exact rfl
          refine wp_build_refrow _ rfl rs (refIn_len hrin) rfl ?_
          have q4 : (w3.alloc (.cells rs.toArray 35)).cell? ⟨b3, 2, none⟩ = some v := (((Below.refl _ _).alloc (Nat.le_refl _) _).cell (p := ⟨b3, 2, none⟩) (World.block_lt_of_cell? w3 _ q3)).trans q3
          refine hK _ _ ?_
          clear hK K
          try simp only [Act.put, List.setIfInBounds_toArray, List.set_cons_zero, List.set_cons_succ]
          refine' free_sole ?_ ?_ (fun K hK => ?_)
          rotate_left 1
          · simp only [List.getElem?_toArray, List.getElem?_cons_zero, List.getElem?_cons_succ]; exact rfl
          · exact rfl
          refine wp_append_refval _ _ rfl wc.heap.size v j _ rfl ((owns_below HNL.out.2.2.2.1 hb3).alloc _) w3.heap.size rs rfl (rbox_start _ _) (refIn_len hrin) (ref_one_cells hrin) (by have := HjN.out; omega) (by have h1 := HNL.out.2.2.2.2.2; have h2 := hb3.size; simp; omega) ?_
          intro v' w5 hown5 hgr5 hfr5
          obtain ⟨g', cap', rfl⟩ := ownsRow_succ hown5
          have hbx5 := nloop_box HNL.out HB3.out.2 hb3 hgr5
          have h2f := rbox_free hbx5 2
          have h2c := refv_slice hbx5
          have Hst := Lib.hid (nloop_step HNL.out Hjl.out HB3.out.1 HB3.out.2 hb3 hrin hown5 hgr5 hfr5)
          refine hK _ _ ?_
          clear hK K hown5 hgr5 hfr5 hbx5 q4 q3
          try simp only [Act.put, List.setIfInBounds_toArray, List.set_cons_zero, List.set_cons_succ]
          refine' free_plain ?_ ?_ (fun K hK => ?_)
          rotate_left 1
          · simp only [List.getElem?_toArray, List.getElem?_cons_zero, List.getElem?_cons_succ]; exact rfl
          · exact rfl
          go_big_quiet_op
          refine hK _ ?_
          clear hK K
          try simp only [Act.put, List.setIfInBounds_toArray, List.set_cons_zero, List.set_cons_succ]
          refine' free_sole ?_ ?_ (fun K hK => ?_)
          rotate_left 1
          · simp only [List.getElem?_toArray, List.getElem?_cons_zero, List.getElem?_cons_succ]; exact rfl
          · exact rfl
          unfold Oper.wp execOp
          go_simp
          refine hK _ _ ?_
          clear hK K
          refine free_done ?_
          go_wp2_with fail
          go_roundw
          case rel => exact ⟨j + 1, _, _, by go_num, Hjl.out, Hst.out⟩
          case measure => simp [intOf]; omega
        · refine' free_step ?_ ?_ (fun K hK => ?_)
          rotate_left 1
          · simp only [List.getElem?_toArray, List.getElem?_cons_zero, List.getElem?_cons_succ]; exact rfl
          · exact rfl
          unfold Oper.wp execOp
          go_simp
          refine hK _ _ ?_
          clear hK K
          try simp only [Act.put, List.setIfInBounds_toArray, List.set_cons_zero, List.set_cons_succ]
          refine' free_plain ?_ ?_ (fun K hK => ?_)
          rotate_left 1
          · simp only [List.getElem?_toArray, List.getElem?_cons_zero, List.getElem?_cons_succ]; exact rfl
          · exact rfl
          go_big_quiet_op
          refine hK _ ?_
          clear hK K
          try simp only [Act.put, List.setIfInBounds_toArray, List.set_cons_zero, List.set_cons_succ]
          refine free_fork ?_ ?_
          · refine' free_step ?_ ?_ (fun K hK => ?_)
            rotate_left 1
            · simp only [List.getElem?_toArray, List.getElem?_cons_zero, List.getElem?_cons_succ]; exact rfl
            · exact rfl
            unfold Oper.wp execOp
            go_simp
            refine hK _ _ ?_
            clear hK K
            try simp only [Act.put, List.setIfInBounds_toArray, List.set_cons_zero, List.set_cons_succ]
            refine' free_sole ?_ ?_ (fun K hK => ?_)
            rotate_left 1
            · simp only [List.getElem?_toArray, List.getElem?_cons_zero, List.getElem?_cons_succ]; exact rfl
            · exact rfl
            refine wp_load_val _ rfl b (off + j * 3) cs rfl h9 ?_
            refine hK _ _ ?_
            clear hK K
            try simp only [Act.put, List.setIfInBounds_toArray, List.set_cons_zero, List.set_cons_succ]
            refine' free_sole ?_ ?_ (fun K hK => ?_)
            rotate_left 1
            · simp only [List.getElem?_toArray, List.getElem?_cons_zero, List.getElem?_cons_succ]; exact rfl
            · exact rfl
            go_simp
            refine (hcall _ hdrew).mono ?_
            rintro e w3 ⟨rs, rfl, hrind, hb3d⟩
            have hb3 : Below wr.heap.size wr w3 := hdrew.trans (hb3d.mono hdrew.size)
            have hrin : RefIn (fun k => decide (wr.heap.size ≤ k)) w3 l[j] rs := hrind
            clear hb3d hrind
            have q3 : w3.cell? ⟨b3, 2, none⟩ = some v := (hb3.cell (p := ⟨b3, 2, none⟩) HNL.out.2.2.1.lt).trans hq
            refine hK _ _ ?_
            clear hK K
            try simp only [Act.put, List.setIfInBounds_toArray, List.set_cons_zero, List.set_cons_succ]
            refine' free_sole ?_ ?_ (fun K hK => ?_)
            rotate_left 1
            · simp only [List.getElem?_toArray, List.getElem?_cons_zero, List.getElem?_cons_succ]; exact rfl
            · exact rfl
            refine wp_build_refrow _ rfl rs (refIn_len hrin) rfl ?_
            have q4 : (w3.alloc (.cells rs.toArray 35)).cell? ⟨b3, 2, none⟩ = some v := (((Below.refl _ _).alloc (Nat.le_refl _) _).cell (p := ⟨b3, 2, none⟩) (World.block_lt_of_cell? w3 _ q3)).trans q3
            refine hK _ _ ?_
            clear hK K
            try simp only [Act.put, List.setIfInBounds_toArray, List.set_cons_zero, List.set_cons_succ]
            refine' free_sole ?_ ?_ (fun K hK => ?_)
            rotate_left 1
            · simp only [List.getElem?_toArray, List.getElem?_cons_zero, List.getElem?_cons_succ]; exact rfl
            · exact rfl
            refine wp_append_refval _ _ rfl wc.heap.size v j _ rfl ((owns_below HNL.out.2.2.2.1 hb3).alloc _) w3.heap.size rs rfl (rbox_start _ _) (refIn_len hrin) (ref_one_cells hrin) (by have := HjN.out; omega) (by have h1 := HNL.out.2.2.2.2.2; have h2 := hb3.size; simp; omega) ?_
            intro v' w5 hown5 hgr5 hfr5
            obtain ⟨g', cap', rfl⟩ := ownsRow_succ hown5
            have hbx5 := nloop_box HNL.out HB3.out.2 hb3 hgr5
            have h2f := rbox_free hbx5 2
            have h2c := refv_slice hbx5
            have Hst := Lib.hid (nloop_step HNL.out Hjl.out HB3.out.1 HB3.out.2 hb3 hrin hown5 hgr5 hfr5)
            refine hK _ _ ?_
            clear hK K hown5 hgr5 hfr5 hbx5 q4 q3
            try simp only [Act.put, List.setIfInBounds_toArray, List.set_cons_zero, List.set_cons_succ]
            refine' free_plain ?_ ?_ (fun K hK => ?_)
            rotate_left 1
            · simp only [List.getElem?_toArray, List.getElem?_cons_zero, List.getElem?_cons_succ]; exact rfl
            · exact rfl
            go_big_quiet_op
            refine hK _ ?_
            clear hK K
            try simp only [Act.put, List.setIfInBounds_toArray, List.set_cons_zero, List.set_cons_succ]
            refine' free_sole ?_ ?_ (fun K hK => ?_)
            rotate_left 1
            · simp only [List.getElem?_toArray, List.getElem?_cons_zero, List.getElem?_cons_succ]; exact rfl
            · exact rfl
            unfold Oper.wp execOp
            go_simp
            refine hK _ _ ?_
            clear hK K
            refine free_done ?_
            go_wp2_with fail
            go_roundw
            case rel => exact ⟨j + 1, _, _, by go_num, Hjl.out, Hst.out⟩
            case measure => simp [intOf]; omega
          · refine' free_step ?_ ?_ (fun K hK => ?_)
            rotate_left 1
            · simp only [List.getElem?_toArray, List.getElem?_cons_zero, List.getElem?_cons_succ]; exact rfl
            · exact rfl
            refine wp_load_val _ rfl b (off + j * 3) cs rfl h9 ?_
            refine hK _ _ ?_
            clear hK K
            try simp only [Act.put, List.setIfInBounds_toArray, List.set_cons_zero, List.set_cons_succ]
            refine free_fork ?_ ?_
            · refine' free_step ?_ ?_ (fun K hK => ?_)
              rotate_left 1
              · simp only [List.getElem?_toArray, List.getElem?_cons_zero, List.getElem?_cons_succ]; exact rfl
              · exact rfl
              unfold Oper.wp execOp
              go_simp
              refine hK _ _ ?_
              clear hK K
              try simp only [Act.put, List.setIfInBounds_toArray, List.set_cons_zero, List.set_cons_succ]
              refine' free_sole ?_ ?_ (fun K hK => ?_)
              rotate_left 1
              · simp only [List.getElem?_toArray, List.getElem?_cons_zero, List.getElem?_cons_succ]; exact rfl
              · exact rfl
              go_simp
              refine (hcall _ hdrew).mono ?_
              rintro e w3 ⟨rs, rfl, hrind, hb3d⟩
              have hb3 : Below wr.heap.size wr w3 := hdrew.trans (hb3d.mono hdrew.size)
              have hrin : RefIn (fun k => decide (wr.heap.size ≤ k)) w3 l[j] rs := hrind
              clear hb3d hrind
              have q3 : w3.cell? ⟨b3, 2, none⟩ = some v := (hb3.cell (p := ⟨b3, 2, none⟩) HNL.out.2.2.1.lt).trans hq
              refine hK _ _ ?_
              clear hK K
              try simp only [Act.put, List.setIfInBounds_toArray, List.set_cons_zero, List.set_cons_succ]
              refine' free_sole ?_ ?_ (fun K hK => ?_)
              rotate_left 1
              · simp only [List.getElem?_toArray, List.getElem?_cons_zero, List.getElem?_cons_succ]; exact rfl
              · exact rfl
              refine wp_build_refrow _ rfl rs (refIn_len hrin) rfl ?_
              have q4 : (w3.alloc (.cells rs.toArray 35)).cell? ⟨b3, 2, none⟩ = some v := (((Below.refl _ _).alloc (Nat.le_refl _) _).cell (p := ⟨b3, 2, none⟩) (World.block_lt_of_cell? w3 _ q3)).trans q3
              refine hK _ _ ?_
              clear hK K
              try simp only [Act.put, List.setIfInBounds_toArray, List.set_cons_zero, List.set_cons_succ]
              refine' free_sole ?_ ?_ (fun K hK => ?_)
              rotate_left 1
              · simp only [List.getElem?_toArray, List.getElem?_cons_zero, List.getElem?_cons_succ]; exact rfl
              · exact rfl
              refine wp_append_refval _ _ rfl wc.heap.size v j _ rfl ((owns_below HNL.out.2.2.2.1 hb3).alloc _) w3.heap.size rs rfl (rbox_start _ _) (refIn_len hrin) (ref_one_cells hrin) (by have := HjN.out; omega) (by have h1 := HNL.out.2.2.2.2.2; have h2 := hb3.size; simp; omega) ?_
              intro v' w5 hown5 hgr5 hfr5
              obtain ⟨g', cap', rfl⟩ := ownsRow_succ hown5
              have hbx5 := nloop_box HNL.out HB3.out.2 hb3 hgr5
              have h2f := rbox_free hbx5 2
              have h2c := refv_slice hbx5
              have Hst := Lib.hid (nloop_step HNL.out Hjl.out HB3.out.1 HB3.out.2 hb3 hrin hown5 hgr5 hfr5)
              refine hK _ _ ?_
              clear hK K hown5 hgr5 hfr5 hbx5 q4 q3
              try simp only [Act.put, List.setIfInBounds_toArray, List.set_cons_zero, List.set_cons_succ]
              refine' free_plain ?_ ?_ (fun K hK => ?_)
              rotate_left 1
              · simp only [List.getElem?_toArray, List.getElem?_cons_zero, List.getElem?_cons_succ]; exact rfl
              · exact rfl
              go_big_quiet_op
              refine hK _ ?_
              clear hK K
              try simp only [Act.put, List.setIfInBounds_toArray, List.set_cons_zero, List.set_cons_succ]
              refine' free_sole ?_ ?_ (fun K hK => ?_)
              rotate_left 1
              · simp only [List.getElem?_toArray, List.getElem?_cons_zero, List.getElem?_cons_succ]; exact rfl
              · exact rfl
              unfold Oper.wp execOp
              go_simp
              refine hK _ _ ?_
              clear hK K
              refine free_done ?_
              go_wp2_with fail
              go_roundw
              case rel => exact ⟨j + 1, _, _, by go_num, Hjl.out, Hst.out⟩
              case measure => simp [intOf]; omega
            · refine' free_step ?_ ?_ (fun K hK => ?_)
              rotate_left 1
              · simp only [List.getElem?_toArray, List.getElem?_cons_zero, List.getElem?_cons_succ]; exact rfl
              · exact rfl
              go_simp
              refine (hcall _ hdrew).mono ?_
              rintro e w3 ⟨rs, rfl, hrind, hb3d⟩
              have hb3 : Below wr.heap.size wr w3 := hdrew.trans (hb3d.mono hdrew.size)
              have hrin : RefIn (fun k => decide (wr.heap.size ≤ k)) w3 l[j] rs := hrind
              clear hb3d hrind
              have q3 : w3.cell? ⟨b3, 2, none⟩ = some v := (hb3.cell (p := ⟨b3, 2, none⟩) HNL.out.2.2.1.lt).trans hq
              refine hK _ _ ?_
              clear hK K
              try simp only [Act.put, List.setIfInBounds_toArray, List.set_cons_zero, List.set_cons_succ]
              refine free_fork ?_ ?_
              · refine' free_step ?_ ?_ (fun K hK => ?_)
                rotate_left 1
                · simp only [List.getElem?_toArray, List.getElem?_cons_zero, List.getElem?_cons_succ]; exact rfl
                · exact rfl
                unfold Oper.wp execOp
                go_simp
                refine hK _ _ ?_
                clear hK K
                try simp only [Act.put, List.setIfInBounds_toArray, List.set_cons_zero, List.set_cons_succ]
                refine' free_sole ?_ ?_ (fun K hK => ?_)
                rotate_left 1
                · simp only [List.getElem?_toArray, List.getElem?_cons_zero, List.getElem?_cons_succ]; exact rfl
                · exact rfl
                refine wp_build_refrow _ rfl rs (refIn_len hrin) rfl ?_
                have q4 : (w3.alloc (.cells rs.toArray 35)).cell? ⟨b3, 2, none⟩ = some v := (((Below.refl _ _).alloc (Nat.le_refl _) _).cell (p := ⟨b3, 2, none⟩) (World.block_lt_of_cell? w3 _ q3)).trans q3
                refine hK _ _ ?_
                clear hK K
                try simp only [Act.put, List.setIfInBounds_toArray, List.set_cons_zero, List.set_cons_succ]
                refine' free_sole ?_ ?_ (fun K hK => ?_)
                rotate_left 1
                · simp only [List.getElem?_toArray, List.getElem?_cons_zero, List.getElem?_cons_succ]; exact rfl
                · exact rfl
                refine wp_append_refval _ _ rfl wc.heap.size v j _ rfl ((owns_below HNL.out.2.2.2.1 hb3).alloc _) w3.heap.size rs rfl (rbox_start _ _) (refIn_len hrin) (ref_one_cells hrin) (by have := HjN.out; omega) (by have h1 := HNL.out.2.2.2.2.2; have h2 := hb3.size; simp; omega) ?_
                intro v' w5 hown5 hgr5 hfr5
                obtain ⟨g', cap', rfl⟩ := ownsRow_succ hown5
                have hbx5 := nloop_box HNL.out HB3.out.2 hb3 hgr5
                have h2f := rbox_free hbx5 2
                have h2c := refv_slice hbx5
                have Hst := Lib.hid (nloop_step HNL.out Hjl.out HB3.out.1 HB3.out.2 hb3 hrin hown5 hgr5 hfr5)
                refine hK _ _ ?_
                clear hK K hown5 hgr5 hfr5 hbx5 q4 q3
                try simp only [Act.put, List.setIfInBounds_toArray, List.set_cons_zero, List.set_cons_succ]
                refine' free_plain ?_ ?_ (fun K hK => ?_)
                rotate_left 1
                · simp only [List.getElem?_toArray, List.getElem?_cons_zero, List.getElem?_cons_succ]; exact rfl
                · exact rfl
                go_big_quiet_op
                refine hK _ ?_
                clear hK K
                try simp only [Act.put, List.setIfInBounds_toArray, List.set_cons_zero, List.set_cons_succ]
                refine' free_sole ?_ ?_ (fun K hK => ?_)
                rotate_left 1
                · simp only [List.getElem?_toArray, List.getElem?_cons_zero, List.getElem?_cons_succ]; exact rfl
                · exact rfl
                unfold Oper.wp execOp
                go_simp
                refine hK _ _ ?_
                clear hK K
                refine free_done ?_
                go_wp2_with fail
                go_roundw
                case rel => exact ⟨j + 1, _, _, by go_num, Hjl.out, Hst.out⟩
                case measure => simp [intOf]; omega
              · refine' free_step ?_ ?_ (fun K hK => ?_)
                rotate_left 1
                · simp only [List.getElem?_toArray, List.getElem?_cons_zero, List.getElem?_cons_succ]; exact rfl
                · exact rfl
                refine wp_build_refrow _ rfl rs (refIn_len hrin) rfl ?_
                have q4 : (w3.alloc (.cells rs.toArray 35)).cell? ⟨b3, 2, none⟩ = some v := (((Below.refl _ _).alloc (Nat.le_refl _) _).cell (p := ⟨b3, 2, none⟩) (World.block_lt_of_cell? w3 _ q3)).trans q3
                refine hK _ _ ?_
                clear hK K
                try simp only [Act.put, List.setIfInBounds_toArray, List.set_cons_zero, List.set_cons_succ]
                refine' free_sole ?_ ?_ (fun K hK => ?_)
                rotate_left 1
                · simp only [List.getElem?_toArray, List.getElem?_cons_zero, List.getElem?_cons_succ]; exact rfl
                · exact rfl
                unfold Oper.wp execOp
                go_simp
                refine hK _ _ ?_
                clear hK K
                try simp only [Act.put, List.setIfInBounds_toArray, List.set_cons_zero, List.set_cons_succ]
                refine' free_sole ?_ ?_ (fun K hK => ?_)
                rotate_left 1
                · simp only [List.getElem?_toArray, List.getElem?_cons_zero, List.getElem?_cons_succ]; exact rfl
                · exact rfl
                refine wp_append_refval _ _ rfl wc.heap.size v j _ rfl ((owns_below HNL.out.2.2.2.1 hb3).alloc _) w3.heap.size rs rfl (rbox_start _ _) (refIn_len hrin) (ref_one_cells hrin) (by have := HjN.out; omega) (by have h1 := HNL.out.2.2.2.2.2; have h2 := hb3.size; simp; omega) ?_
                intro v' w5 hown5 hgr5 hfr5
                obtain ⟨g', cap', rfl⟩ := ownsRow_succ hown5
                have hbx5 := nloop_box HNL.out HB3.out.2 hb3 hgr5
                have h2f := rbox_free hbx5 2
                have h2c := refv_slice hbx5
                have Hst := Lib.hid (nloop_step HNL.out Hjl.out HB3.out.1 HB3.out.2 hb3 hrin hown5 hgr5 hfr5)
                refine hK _ _ ?_
                clear hK K hown5 hgr5 hfr5 hbx5 q4 q3
                try simp only [Act.put, List.setIfInBounds_toArray, List.set_cons_zero, List.set_cons_succ]
                refine' free_plain ?_ ?_ (fun K hK => ?_)
                rotate_left 1
                · simp only [List.getElem?_toArray, List.getElem?_cons_zero, List.getElem?_cons_succ]; exact rfl
                · exact rfl
                go_big_quiet_op
                refine hK _ ?_
                clear hK K
                try simp only [Act.put, List.setIfInBounds_toArray, List.set_cons_zero, List.set_cons_succ]
                refine' free_sole ?_ ?_ (fun K hK => ?_)
                rotate_left 1
                · simp only [List.getElem?_toArray, List.getElem?_cons_zero, List.getElem?_cons_succ]; exact rfl
                · exact rfl
                unfold Oper.wp execOp
                go_simp
                refine hK _ _ ?_
                clear hK K
                refine free_done ?_
                go_wp2_with fail
                go_roundw
                case rel => exact ⟨j + 1, _, _, by go_num, Hjl.out, Hst.out⟩
                case measure => simp [intOf]; omega
      · have d1 : decide ((j : Int) < l.length) = false := by simp; omega
        obtain rfl : j = l.length := by omega
        have hv1 : v.oneCell' = true := by
          rcases HNL.out.2.2.2.1.2 with ⟨rfl, _⟩ | ⟨_, _, _, rfl, _⟩ <;> rfl
        have hres : RefIn (fun k => decide (wc.heap.size ≤ k)) wr (.mk k z l) (rv3 k z v) :=
          refIn_made Hf.out acc (by rw [HNL.out.1.2, List.take_length]) Hmax.out (fun q hq => (HNL.out.2.1 q hq).mono (Nat.le_refl _) fun q hq _ => by simp only [Bool.and_eq_true] at hq; exact ⟨hq.1, rfl⟩) (fun k hk => by simpa using hk) HNL.out.2.2.2.1
        have h3 : Val3 wr b3 0 (rv3 k z v) := ⟨rv3_length .., fun q hq => by
          have h := cells_at (show wr.heap[b3]? = some (.cells (rv3 k z v).toArray 35 (0, 0)) from HNL.out.2.2.1) q
          rw [Nat.zero_add, h]; simp⟩
        have hone := rd_one k z v hv1
        have hlen := rv3_length k z v
        have hZb : RBox wr (w.heap.size + 1) zero3 := HW.out.2.2.2.below HNL.out.2.2.2.2.1 Hwlt.out.2
        have hwc : w.heap.size + 1 < wc.heap.size := by have := HB3.out; have := Hwlt.out; omega
        generalize rv3 k z v = C at hres h3 hone hlen
        have Hres := Lib.hid hres
        have Hone := Lib.hid hone
        have Hlen := Lib.hid hlen
        have HZb := Lib.hid hZb
        have Hwc := Lib.hid hwc
        have HBw := Lib.hid Bw
        have H3 := Lib.hid h3
        clear hres hone hlen hv1 hZb HNL hj hjl hwc Bw h3
        go_wp2_with (first
          | (refine wpList_load_refval rfl _ rfl b3 0 C rfl H3.out ?_)
          | (refine wpList_store_row rfl 35 _ _ rfl (w.heap.size + 1) _ rfl rfl _ _ HZb.out (infoRefVal' (by rw [List.size_toArray]; exact Hlen.out)) (by simp [zero3, Hlen.out]) Hone.out ?_)
          | fail)
        refine bodyPost_ret (v := .agg C.toArray) (results_cell_row Try.results16 _ _ (w.heap.size + 1) _ _ _ _ rfl (setRow_heap wr _ _ C.toArray _ _ HZb.out) Try.underlying35 rfl (infoRefVal' (by rw [List.size_toArray]; exact Hlen.out))) rfl ⟨C, rfl, ?_, below_row HBw.out (by omega) _⟩
        refine Hres.out.mono (by simp) fun q hq hlt => ?_
        simp only [decide_eq_true_eq] at hq ⊢
        exact ⟨by have := Hwc.out; omega, setRow_other wr _ q _ (by have := Hwc.out; omega)⟩
end Go.Proofs.Ytblgjcolmaidlaa.V
namespace Go.Proofs.Ytblgjcolmaidlaa
namespace V
set_option maxRecDepth 100000
open Go.RowKit
theorem refCounted_all {x : Vl} {cs : List Value} {w : World} (hat : Vl.at w x cs) :
    Calls Try.prog 20 #[.agg cs.toArray] w fun e w' => ∃ v, e = .returned v ∧ (∀ W, Vl.at W x cs → ListAt W (cntd x) v) ∧ Below w.heap.size w w' := by
  obtain ⟨k, z, l⟩ := x
  rw [at_mk] at hat
  obtain ⟨_, _, a, cap, rfl, hmax, hl⟩ := hat
  rw [cntd_mk]
  have hnil : ∀ n, n = 0 → ∀ W, Vl.at W (.mk k z l) [.int .i64 k, .int .u8 z, .slice a l.length cap] → ListAt W (l.take n) (.slice none 0 0) := fun n h _ _ => by subst h; exact ⟨none, 0, rfl, by simp, .inl rfl⟩
  have htake : ∀ n, n ≤ l.length → ∀ W, Vl.at W (.mk k z l) [.int .i64 k, .int .u8 z, .slice a l.length cap] → ListAt W (l.take n) (.slice a n cap) := fun n h W hW => by
    rw [at_mk] at hW
    obtain ⟨_, _, a', cap', he, hmax, hl⟩ := hW
    injection he with _ he
    injection he with _ he
    injection he with he
    injection he with e1 _ e2
    subst e1 e2
    exact listAt_take hmax hl h
  have Htake := Lib.hid htake
  have Hnil := Lib.hid hnil
  have hcap : l.length ≤ cap ∨ l.length = 0 := by rcases hl with hl | ⟨_, _, _, h, _⟩ <;> omega
  have hmx : (l.length : Int) ≤ 9223372036854775807 := by unfold maxLen at hmax; omega
  have hcap2 : l.length ≤ cap := by omega
  clear hl htake hnil hmax hcap
  generalize hn : l.length = n at *
  by_cases h3 : k = 3
  · subst h3
    rw [show cntN 3 n = min 2 n from rfl]
    by_cases h2 : n < 2
    · have hz : decide ((n : Int) < 2) = true := by simp; omega
      have e : min 2 n = n := by omega
      rw [e]
      go_enter Try.func20, Try.ntmps20
      go_wp2_with fail
      all_goals first
        | (go_ret
           exact ⟨_, rfl, Htake.out n (Nat.le_refl _), (Below.refl _ _).alloc (Nat.le_refl _) _⟩)
        | (exfalso; omega)
    · have e : min 2 n = 2 := by omega
      rw [e]
      go_enter Try.func20, Try.ntmps20
      go_wp2_with fail
      all_goals first
        | (exfalso; omega)
        | (go_ret
           exact ⟨_, rfl, Htake.out 2 (by omega), (Below.refl _ _).alloc (Nat.le_refl _) _⟩)
  by_cases h4 : k = 4 ∨ k = 5 ∨ k = 7
  · rw [show cntN k n = min 1 n from by unfold cntN; rw [if_neg h3, if_pos h4]]
    clear h3
    by_cases h2 : n < 1
    · have e : min 1 n = n := by omega
      rw [e]
      rcases h4 with rfl | rfl | rfl <;> (
        go_enter Try.func20, Try.ntmps20
        go_wp2_with fail
        all_goals first
          | (go_ret
             exact ⟨_, rfl, Htake.out n (Nat.le_refl _), (Below.refl _ _).alloc (Nat.le_refl _) _⟩)
          | (exfalso; omega))
    · have e : min 1 n = 1 := by omega
      rw [e]
      rcases h4 with rfl | rfl | rfl <;> (
        go_enter Try.func20, Try.ntmps20
        go_wp2_with fail
        all_goals first
          | (exfalso; omega)
          | (go_ret
             exact ⟨_, rfl, Htake.out 1 (by omega), (Below.refl _ _).alloc (Nat.le_refl _) _⟩))
  by_cases h6 : k = 6
  · subst h6
    rw [show cntN 6 n = n from rfl]
    have hz6 : decide ((n : Int) < n) = false := by simp
    go_enter Try.func20, Try.ntmps20
    go_wp2_with fail
    go_ret
    exact ⟨_, rfl, Htake.out n (Nat.le_refl _), (Below.refl _ _).alloc (Nat.le_refl _) _⟩
  · rw [show cntN k n = 0 from by unfold cntN; rw [if_neg h3, if_neg h4, if_neg h6]]
    have e3 : (k == 3) = false := by simp [h3]
    have e4 : (k == 4) = false := by simp; omega
    have e5 : (k == 5) = false := by simp; omega
    have e7 : (k == 7) = false := by simp; omega
    have e6 : (k == 6) = false := by simp [h6]
    have hz0 : decide ((n : Int) < 0) = false := by simp
    clear h3 h4 h6
    go_enter Try.func20, Try.ntmps20
    go_wp2_with fail
    go_ret
    exact ⟨_, rfl, Htake.out 0 (Nat.zero_le _), (Below.refl _ _).alloc (Nat.le_refl _) _⟩
theorem refCounted_walk {x : Vl} {cs : List Value} {w : World} (hat : Vl.at w x cs) :
    Calls Try.prog 20 #[.agg cs.toArray] w fun e w' => ∃ v, e = .returned v ∧ ListAt w (cntd x) v ∧ Below w.heap.size w w' :=
  (refCounted_all hat).mono fun _ _ ⟨v, h1, h2, h3⟩ => ⟨v, h1, h2 w hat, h3⟩
theorem rval3_in {w : World} {b : Nat} {cs : List Value} (h : RBox w b cs.toArray) (hl : cs.length = 3) : Val3 w b 0 cs := ⟨hl, fun q hq => by rw [Nat.zero_add, cells_at h]; simp⟩
end V
end Go.Proofs.Ytblgjcolmaidlaa
