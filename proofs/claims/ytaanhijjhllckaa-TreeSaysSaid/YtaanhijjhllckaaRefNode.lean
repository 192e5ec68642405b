/- Nodes copied into the document's own. -/
import Derived.Test.YtaanhijjhllckaaRefSize
import Derived.Test.YtaanhijjhllckaaRefSmall
import Derived.Test.YtaanhijjhllckaaTreeMade
import Derived.Test.YtaanhijjhllckaaBlockMem
import Derived.Test.YtaanhijjhllckaaFree
import Derived.Maps.AppendAt
import Derived.Deep.DeepCutAuto
namespace Go.Proofs.Ytaanhijjhllckaa
set_option maxRecDepth 100000
open Go.RowKit
/-- a world of which only the blocks with p can be read -/
def veil (p : Nat → Bool) (w : World) : World := { w with heap := w.heap.mapIdx fun i o => if p i then o else .deferred none }
theorem veil_size (p : Nat → Bool) (w : World) : (veil p w).heap.size = w.heap.size := by simp [veil]
theorem veil_block {p : Nat → Bool} {w : World} {k : Nat} (h : p k = true) : (veil p w).heap[k]? = w.heap[k]? := by
  simp only [veil, Array.getElem?_mapIdx]
  cases hk : w.heap[k]? with
  | none => rfl
  | some o => simp [h]
theorem veil_cell {p : Nat → Bool} {w : World} {a : Addr} {v : Value} (h : (veil p w).cell? a = some v) : p a.block = true ∧ w.cell? a = some v := by
  cases hp : p a.block with
  | true => exact ⟨rfl, by rw [← h]; exact (World.cell?_of_block (veil_block hp)).symm⟩
  | false =>
    exfalso
    unfold World.cell? at h
    simp only [veil, Array.getElem?_mapIdx] at h
    cases hk : w.heap[a.block]? with
    | none => rw [hk] at h; cases h
    | some o => rw [hk] at h; simp [hp] at h
/-- a node of the document's own that hangs on blocks with p alone -/
def RefIn (p : Nat → Bool) (w : World) (x : Nd) (cs : List Value) : Prop := Nd.ref (veil p w) x cs
theorem RefIn.mono {p q : Nat → Bool} {w w' : World} {x : Nd} {cs : List Value} (h : RefIn p w x cs) (hs : w.heap.size ≤ w'.heap.size) (hk : ∀ k, p k = true → k < w.heap.size → q k = true ∧ w'.heap[k]? = w.heap[k]?) : RefIn q w' x cs := by
  refine Nd.ref_same (fun a v ha => ?_) (by rw [veil_size, veil_size]; exact hs) x cs h
  obtain ⟨h1, h2⟩ := veil_cell ha
  have h3 := hk _ h1 (World.block_lt_of_cell? w _ h2)
  rw [World.cell?_of_block (veil_block h3.1), World.cell?_of_block h3.2]
  exact h2
theorem RefIn.ref {p : Nat → Bool} {w : World} {x : Nd} {cs : List Value} (h : RefIn p w x cs) : Nd.ref w x cs :=
  Nd.ref_same (fun _ _ ha => (veil_cell ha).2) (by rw [veil_size]; exact Nat.le_refl _) x cs h
theorem refIn_len {p : Nat → Bool} {w : World} {x : Nd} {cs : List Value} (h : RefIn p w x cs) : cs.length = 261 := ref_len h.ref
/-- the zero node of the document's own -/
def zero261 : Array Value := (rdCells 0 0 0 0 0 (.slice none 0 0)).toArray
theorem zeroRefNode (w : World) : (zeroValue 36).run Try.prog w = .ok (.agg zero261) w := by kernel_rfl
theorem build_refnode (w : World) (k : Int) (s : BitVec 256) (lo hi n : Int) : (Instr.build 36 #[(0, .int .i64 k), (1, BV s.getLsbD), (2, .int .i64 lo), (3, .int .i64 hi), (4, .int .i64 n)]).run Try.prog w = .ok (.agg (rdCells k s lo hi n (.slice none 0 0)).toArray) w := by kernel_rfl
set_option maxHeartbeats 1000000 in
theorem lawOwn_any (s : BitVec 256) (w : World) : Calls Try.prog 10 #[SV s] w fun e w' => e = .returned (BV s.getLsbD) ∧ Below w.heap.size w w' := by
  have hz := zeroRef
  go_enter Try.func10, Try.ntmps10
  go_wp2_with fail
  refine (from_any s _).mono ?_
  rintro e w1 ⟨rfl, hb1⟩
  have hR : BAt w1 (w.heap.size + 1) bNone := (BAt.start (w.alloc _) _ _ rfl _ (by simp)).below hb1 (by simp)
  have hB : Below w.heap.size w w1 := (((Below.refl _ _).alloc (Nat.le_refl _) _).alloc (by simp) _).trans (hb1.mono (by simp; omega))
  go_wp2_with (first | (refine wpList_store_row rfl 33 _ _ rfl (w.heap.size + 1) _ rfl rfl _ _ hR (infoRef' _) (by rw [bc_size, bc_size]) (bc_one _) ?_))
  refine bodyPost_ret (v := BV s.getLsbD) (results_cell_row Try.results10 _ _ (w.heap.size + 1) _ _ _ _ rfl (BAt.rowSame hR) Try.underlying33 rfl (infoRef' _)) rfl ⟨rfl, below_row hB (by omega) _⟩
theorem quiet_load_node9 {o : Oper} {a : Act} {C : World → Prop} {K : Act → Prop} (x : Operand) (ho : o.op = .load 27 x) (b off : Nat) (cs : List Value) (hx : a.eval x = .pointer (some ⟨b, off, none⟩))
    (h : ∀ w, C w → Node9 w b off cs) (hK : K (a.put o.dst (.agg cs.toArray))) : o.quiet Try.prog a C K :=
  ⟨.agg cs.toArray, fun w hw => by
    unfold Oper.quietAt execOp
    simp only [ho, hx, Instr.loadAt, Instr.sureAddr, Sem.run_bind, Sem.run_pure, Result.andThen_ok, loadNode (h w hw)]
    exact ⟨rfl, rfl⟩, hK⟩
theorem quiet_build_refnode {o : Oper} {a : Act} {C : World → Prop} {K : Act → Prop} (x0 x1 x2 x3 x4 : Operand) (ho : o.op = .build 36 #[(0, x0), (1, x1), (2, x2), (3, x3), (4, x4)]) (k : Int) (s : BitVec 256) (lo hi n : Int)
    (h0 : a.eval x0 = .int .i64 k) (h1 : a.eval x1 = BV s.getLsbD) (h2 : a.eval x2 = .int .i64 lo) (h3 : a.eval x3 = .int .i64 hi) (h4 : a.eval x4 = .int .i64 n)
    (hK : K (a.put o.dst (.agg (rdCells k s lo hi n (.slice none 0 0)).toArray))) : o.quiet Try.prog a C K :=
  ⟨.agg (rdCells k s lo hi n (.slice none 0 0)).toArray, fun w hw => by
    have hm : (#[(0, x0), (1, x1), (2, x2), (3, x3), (4, x4)] : Array (Nat × Operand)).map (fun (i, x) => (i, a.eval x)) = #[(0, .int .i64 k), (1, BV s.getLsbD), (2, .int .i64 lo), (3, .int .i64 hi), (4, .int .i64 n)] := by simp [h0, h1, h2, h3, h4]
    unfold Oper.quietAt execOp
    simp only [ho, hm, Sem.run_bind, Sem.run_pure, build_refnode, Result.andThen_ok]
    exact ⟨rfl, rfl⟩, hK⟩
/-- a block holds a node of the document's own -/
def RBox (w : World) (b : Nat) (cs : Array Value) : Prop := w.heap[b]? = some (.cells cs 36 (0, 0))
theorem rbox_start (w : World) (cs : Array Value) : RBox (w.alloc (.cells cs 36)) w.heap.size cs := World.alloc_heap_new w _
theorem RBox.lt {w : World} {b : Nat} {cs : Array Value} (h : RBox w b cs) : b < w.heap.size := (Array.getElem?_eq_some_iff.1 h).1
theorem RBox.below {w w' : World} {b : Nat} {cs : Array Value} (h : RBox w b cs) {B : Nat} (hb : Below B w w') (hB : b < B) : RBox w' b cs := (hb.block b hB).trans h
theorem RBox.alloc {w : World} {b : Nat} {cs : Array Value} (h : RBox w b cs) (o : Obj) : RBox (w.alloc o) b cs := (Below.heap_alloc w o b h.lt).trans h
theorem infoRefNode' {cs : Array Value} (h : cs.size = 261) : (Try.prog.info? 36).map (·.size) = some cs.size := by rw [h]; exact infoRefNode
theorem zero261_size : zero261.size = 261 := by unfold zero261; rw [List.size_toArray]; exact rdCells_length ..
theorem rdCells_size (k : Int) (s : BitVec 256) (lo hi n : Int) (v : Value) : (rdCells k s lo hi n v).toArray.size = 261 := by rw [List.size_toArray]; exact rdCells_length ..
theorem rd_one (k : Int) (s : BitVec 256) (lo hi n : Int) (v : Value) (hv : v.oneCell' = true) : ((rdCells k s lo hi n v).toArray.all fun x => x.oneCell') = true := by
  rw [Array.all_eq_true_iff_forall_mem]
  intro u hu
  rw [List.mem_toArray] at hu
  unfold rdCells at hu
  rw [List.mem_cons, List.mem_append] at hu
  rcases hu with rfl | hu | hu
  · rfl
  · exact Array.all_eq_true_iff_forall_mem.1 (bc_one s.getLsbD) u (Array.mem_toList_iff.1 hu)
  · simp only [List.mem_cons, List.not_mem_nil, or_false] at hu
    rcases hu with rfl | rfl | rfl | rfl
    · rfl
    · rfl
    · rfl
    · exact hv
theorem foldl_put_zip : ∀ (l : List Value) (k : Nat) (Z : Array Value), Z.size = k + l.length → (l.zipIdx k).foldl (fun cs x => cs.setIfInBounds (0 + x.2) x.1) Z = (Z.toList.take k ++ l).toArray
  | [], k, Z, h => by
    simp at h
    simp [← h, ← Array.length_toList]
  | v :: l, k, Z, h => by
    rw [List.zipIdx_cons, List.foldl_cons, foldl_put_zip l (k + 1) _ (by simp at h ⊢; omega)]
    congr 1
    simp only [Nat.zero_add, Array.toList_setIfInBounds]
    rw [List.take_succ_eq_append_getElem (by simp at h ⊢; omega), List.take_set_of_le (by omega)]
    simp
theorem nodesRef_cells {W : World} {b : Nat} : ∀ (L : List (Nd × List Value)) (off : Nat), (∀ p ∈ L, Nd.ref W p.1 p.2) → (∀ q, q < L.length * 261 → W.cell? ⟨b, off + q, none⟩ = (L.flatMap (·.2))[q]?) → nodesRef W (L.map (·.1)) b off
  | [], off, _, _ => by rw [List.map_nil, nodesRef_nil]; trivial
  | p :: L, off, h, hc => by
    rw [List.map_cons, nodesRef_cons]
    have hp := ref_len (h p (by simp))
    refine ⟨⟨p.2, hp, fun q hq => ?_, h p (by simp)⟩, nodesRef_cells L (off + 261) (fun r hr => h r (by simp [hr])) fun q hq => ?_⟩
    · rw [hc q (by simp; omega), List.flatMap_cons, List.getElem?_append_left (by omega)]
    · rw [Nat.add_assoc, hc (261 + q) (by simp; omega), List.flatMap_cons, List.getElem?_append_right (by omega)]
      congr 1
      omega
/-- a node whose list the call has gathered -/
theorem refIn_made {p : Nat → Bool} {w : World} {base : Nat} {k lo hi n : Int} {s : BitVec 256} {v : Value} {l : List Nd} (hf : fits64 k ∧ fits64 lo ∧ fits64 hi ∧ fits64 n) (L : List (Nd × List Value)) (hL : L.map (·.1) = l) (hmax : l.length ≤ maxLen)
    (h : ∀ q ∈ L, RefIn p w q.1 q.2) (hp : ∀ k, base ≤ k → p k = true) (ho : w.ownsRow base 36 261 v l.length (L.flatMap (·.2))) : RefIn p w (.mk k s lo hi n l) (rdCells k s lo hi n v) := by
  unfold RefIn
  rw [ref_mk]
  rcases ho.2 with ⟨rfl, h0⟩ | ⟨g, cap, cur, rfl, hb, hg, hc, hm, hs, htake⟩
  · exact ⟨hf.1, hf.2.1, hf.2.2.1, hf.2.2.2, none, 0, by rw [h0], hmax, .inl h0⟩
  · refine ⟨hf.1, hf.2.1, hf.2.2.1, hf.2.2.2, some ⟨g, 0, none⟩, cap, rfl, hmax, .inr ⟨g, 0, rfl, hc, by rw [veil_size]; exact (Array.getElem?_eq_some_iff.1 hg).1, ?_⟩⟩
    subst hL
    refine nodesRef_cells L 0 h fun q hq => ?_
    have hlen := ho.1
    rw [List.length_map] at hlen
    obtain ⟨u, hu⟩ : ∃ u, (L.flatMap (·.2))[q]? = some u := ⟨_, List.getElem?_eq_getElem (by omega)⟩
    have := ho.cells (g := g) rfl q u hu
    rw [addr_at] at this
    rw [World.cell?_of_block (veil_block (hp g hb)), this, hu]
theorem info_refnode : (Try.prog.info? 36).map (fun i => (i.zero, i.size, i.bytes)) = some (some (.agg zero261), 261, 312) := by kernel_rfl
theorem fill_refnode (rs : List Value) (h : rs.length = 261) (Z : Array Value) (hZ : Z.size = 261) : Instr.fill (fun i => some (i * 261, 261)) Z [(0, .agg rs.toArray)] = some rs.toArray := by
  have hcs : (Value.agg rs.toArray).cells = rs.toArray := rfl
  simp only [Instr.fill, hcs, List.size_toArray, h, hZ]
  simp only [Nat.zero_mul, Nat.zero_add, ne_eq, not_true_eq_false, decide_false, Bool.false_or, gt_iff_lt, Nat.lt_irrefl, Bool.false_eq_true, if_false, Option.some.injEq]
  rw [← Array.foldl_toList, Array.toList_zipIdx]
  have := foldl_put_zip rs 0 Z (by rw [h, hZ])
  simpa using this
theorem build_refrow (w : World) (rs : List Value) (h : rs.length = 261) : (Instr.buildSlice 34 1 #[(0, .agg rs.toArray)]).run Try.prog w = .ok (.slice (some ⟨w.heap.size, 0, none⟩) 1 1) (w.alloc (.cells rs.toArray 36)) := by
  obtain ⟨i0, hi, hz0, hz1, hz2⟩ := info_parts info_refnode
  have hcz : (Value.agg zero261).cells = zero261 := rfl
  have hZ : (((Array.range 261).map fun i => (Value.agg zero261).cells[i % (Value.agg zero261).cells.size]!)).size = 261 := by simp
  have hf := fill_refnode rs h _ hZ
  unfold Instr.buildSlice
  simp only [Sem.run_bind, run_underlying Try.underlying34, Result.andThen_ok, sizeOf, typeInfo, Sem.run_pure, Nat.one_mul]
  have hzv : (zeroValue 36).run Try.prog w = .ok (.agg zero261) w := by kernel_rfl
  clear hcz hz0 hz2 hZ
  simp [newRow, *]
theorem wp_build_refrow {o : Oper} {a : Act} {w : World} {K : Act → World → Prop} {Q : Exit → Act → World → Prop} (x : Operand) (ho : o.op = .buildSlice 34 1 #[(0, x)]) (rs : List Value) (hrs : rs.length = 261) (hx : a.eval x = .agg rs.toArray)
    (h : K (a.put o.dst (.slice (some ⟨w.heap.size, 0, none⟩) 1 1)) (w.alloc (.cells rs.toArray 36))) : o.wp Try.prog a w K Q := by
  have hm : (#[(0, x)] : Array (Nat × Operand)).map (fun (i, x) => (i, a.eval x)) = #[(0, .agg rs.toArray)] := by simp [hx]
  unfold Oper.wp execOp
  simp only [ho, hm, Sem.run_bind, Sem.run_pure, build_refrow w rs hrs, Result.andThen_ok]
  exact h
theorem ref_one_cells {p : Nat → Bool} {w : World} {x : Nd} {cs : List Value} (h : RefIn p w x cs) : ∀ u ∈ cs, u.oneCell' = true := by
  cases x with
  | mk k s lo hi n l =>
    unfold RefIn at h
    rw [ref_mk] at h
    obtain ⟨_, _, _, _, a, cap, rfl, _⟩ := h
    intro u hu
    exact Array.all_eq_true_iff_forall_mem.1 (rd_one k s lo hi n _ rfl) u (by simpa using hu)
theorem wp_append_refnode {o : Oper} {a : Act} {w : World} {K : Act → World → Prop} {Q : Exit → Act → World → Prop} (s x : Operand) (ho : o.op = .call { callee := .builtin .append, args := #[s, x], argTypes := #[34, 34] })
    (base : Nat) (v : Value) (n : Nat) (xs : List Value) (hs : a.eval s = v) (hown : w.ownsRow base 36 261 v n xs) (b : Nat) (cs : List Value) (hx : a.eval x = .slice (some ⟨b, 0, none⟩) 1 1) (hc : RBox w b cs.toArray) (hcl : cs.length = 261)
    (h1 : ∀ u ∈ cs, u.oneCell' = true) (hn : n < 400000000000) (hbase : base ≤ w.heap.size)
    (h : ∀ v' w', w'.ownsRow base 36 261 v' (n + 1) (xs ++ cs) → w.grownBy w' v.ownBlock → (v'.ownBlock = v.ownBlock ∨ v'.ownBlock = some w.heap.size) → K (a.put o.dst v') w') : o.wp Try.prog a w K Q := by
  obtain ⟨i0, hi, hz0, hz1, hz2⟩ := info_parts info_refnode
  have hnews : ∀ j u, cs[j]? = some u → w.cell? ((⟨b, 0, none⟩ : Addr).add j) = some u := by
    intro j u hj
    rw [addr_at, cells_at hc, Nat.zero_add]
    simpa using hj
  obtain ⟨v', w', hr, h2, h3, _, h5⟩ := run_append_own_at (P := Try.prog) (w := w) base 34 o.type 36 i0 (.agg zero261) 261 312 Try.underlying34 hi hz0 hz1 hz2 zero261_size (by decide) v n xs hown ⟨b, 0, none⟩ 1 1 cs (by rw [hcl]) hnews h1 (by unfold maxLen; omega) (by omega) hbase
  unfold Oper.wp execOp
  simp only [ho, resolve, invoke, builtin, Sem.run_bind, Sem.run_pure, Result.andThen_ok, List.map_toArray, List.map_cons, List.map_nil, hs, hx, hr]
  exact h v' w' h2 h3 h5
theorem rd_set (k : Int) (s : BitVec 256) (lo hi n : Int) (v u : Value) : (rdCells k s lo hi n v).toArray.setIfInBounds 260 u = (rdCells k s lo hi n u).toArray := by
  unfold rdCells
  rw [List.setIfInBounds_toArray, List.set_cons_succ, List.set_append_right _ _ (by rw [Array.length_toList, bc_size]; decide), Array.length_toList, bc_size]
  rfl
theorem wp_load_node9 {o : Oper} {a : Act} {w : World} {K : Act → World → Prop} {Q : Exit → Act → World → Prop} (x : Operand) (ho : o.op = .load 27 x) (b off : Nat) (cs : List Value) (hx : a.eval x = .pointer (some ⟨b, off, none⟩)) (hc : Node9 w b off cs)
    (h : K (a.put o.dst (.agg cs.toArray)) w) : o.wp Try.prog a w K Q := by
  unfold Oper.wp execOp
  simp only [ho, hx, Instr.loadAt, Instr.sureAddr, Sem.run_bind, Sem.run_pure, Result.andThen_ok, loadNode hc]
  exact h
theorem rbox_free {w : World} {b : Nat} {cs : Array Value} (h : RBox w b cs) (o : Nat) : w.frozen? ⟨b, o, none⟩ = false := by
  unfold RBox at h
  simp [World.frozen?, h]
/-- what the loop holds -/
def NLoop (W2 wc : World) (b3 : Nat) (k : Int) (s : BitVec 256) (lo hi n : Int) (l : List Nd) (j : Nat) (v : Value) (acc : List (Nd × List Value)) (wr : World) : Prop :=
  (acc.length = j ∧ acc.map (·.1) = l.take j) ∧ (∀ p ∈ acc, RefIn (fun k => decide (wc.heap.size ≤ k) && decide (v.ownBlock ≠ some k)) wr p.1 p.2) ∧ RBox wr b3 (rdCells k s lo hi n v).toArray ∧ wr.ownsRow wc.heap.size 36 261 v j (acc.flatMap (·.2)) ∧ Below W2.heap.size W2 wr ∧ wc.heap.size ≤ wr.heap.size
theorem nloop_box {W2 wc wr w3 w5 : World} {b3 : Nat} {k : Int} {s : BitVec 256} {lo hi n : Int} {l : List Nd} {j : Nat} {v : Value} {acc : List (Nd × List Value)} {o : Obj} (h : NLoop W2 wc b3 k s lo hi n l j v acc wr) (hbc : b3 < wc.heap.size) (hb : Below wr.heap.size wr w3)
    (hg : (w3.alloc o).grownBy w5 v.ownBlock) : RBox w5 b3 (rdCells k s lo hi n v).toArray := by
  have h3 := h.2.2.1.below hb h.2.2.1.lt
  have h4 := h3.alloc o
  exact (hg.block b3 h4.lt (fun e => by have := (h.2.2.2.1.lt b3 e.symm).1; omega)).trans h4
theorem nloop_step {W2 wc wr w3 w5 : World} {b3 : Nat} {k : Int} {s : BitVec 256} {lo hi n : Int} {l : List Nd} {j : Nat} {v v' : Value} {acc : List (Nd × List Value)} {rs : List Value} {o : Obj} (h : NLoop W2 wc b3 k s lo hi n l j v acc wr) (hj : j < l.length) (hb3 : W2.heap.size ≤ b3) (hbc : b3 < wc.heap.size)
    (hb : Below wr.heap.size wr w3) (hr : RefIn (fun k => decide (wr.heap.size ≤ k)) w3 l[j] rs) (ho : w5.ownsRow wc.heap.size 36 261 v' (j + 1) (acc.flatMap (·.2) ++ rs)) (hg : (w3.alloc o).grownBy w5 v.ownBlock)
    (hf : v'.ownBlock = v.ownBlock ∨ v'.ownBlock = some (w3.alloc o).heap.size) : NLoop W2 wc b3 k s lo hi n l (j + 1) v' (acc ++ [(l[j], rs)]) (w5.setCell ⟨b3, 260, none⟩ v') := by
  have hbox := nloop_box h hbc hb hg
  obtain ⟨⟨h1, h2⟩, hin, hbx, hown, hbel, hsz⟩ := h
  have hs3 := hb.size
  have hs5 := hg.size
  rw [World.size_alloc] at hs5 hf
  have hv : ∀ g, v.ownBlock = some g → wc.heap.size ≤ g ∧ g < wr.heap.size := hown.lt
  have hkeep : ∀ q, q < w3.heap.size → q ≠ b3 → v.ownBlock ≠ some q → (w5.setCell ⟨b3, 260, none⟩ v').heap[q]? = w3.heap[q]? := fun q hq hne hvq => by
    rw [heap_setCell_other _ _ _ _ hne, hg.block q (by simp; omega) (fun e => hvq e.symm)]
    exact Below.heap_alloc _ _ _ hq
  have hv' : ∀ q, wc.heap.size ≤ q → q < w3.heap.size → v.ownBlock ≠ some q → v'.ownBlock ≠ some q := fun q _ hq hne e => by
    rcases hf with hf | hf
    · exact hne (by rw [← hf, e])
    · rw [hf] at e; injection e with e; omega
  refine ⟨⟨by simp [h1], by rw [List.map_append, h2, List.take_succ_eq_append_getElem hj]; rfl⟩, ?_, ?_, ?_, ?_, by simp; omega⟩
  · intro p hp
    rcases List.mem_append.1 hp with hp | hp
    · refine (hin p hp).mono (by simp; omega) fun q hq hlt => ?_
      simp only [Bool.and_eq_true, decide_eq_true_eq] at hq ⊢
      refine ⟨⟨hq.1, hv' q hq.1 (by omega) hq.2⟩, ?_⟩
      rw [hkeep q (by omega) (by omega) hq.2, hb.block q hlt]
    · simp only [List.mem_singleton] at hp
      subst hp
      refine hr.mono (by simp; omega) fun q hq hlt => ?_
      simp only [Bool.and_eq_true, decide_eq_true_eq] at hq ⊢
      have hne : v.ownBlock ≠ some q := fun e => by have := (hv q e).2; omega
      exact ⟨⟨by omega, hv' q (by omega) hlt hne⟩, hkeep q hlt (by omega) hne⟩
  · show RBox _ _ _
    rw [← rd_set k s lo hi n v v']
    exact heap_setCell_same w5 b3 260 _ _ v' hbox
  · rw [List.flatMap_append]
    have h := ownsRow_setCell_below ho (a := ⟨b3, 260, none⟩) hbc v'
    simpa using h
  · have hb5 : Below W2.heap.size W2 w5 := hbel.trans ⟨hg.os.trans hb.os, hg.tape.trans hb.tape, hg.output.trans hb.output, by omega, fun q hq => by
      have := hbel.size
      rw [hg.block q (by simp; omega) (fun e => by have := (hv q e.symm).1; omega), Below.heap_alloc _ _ _ (by omega)]
      exact hb.block q (by omega)⟩
    exact hb5.setCell hb3 _
/-- no list of the node is too long -/
def slimN : Nat → Nd → Bool
  | 0, _ => false
  | f + 1, .mk _ _ _ _ _ l => decide (l.length ≤ 100000) && l.all (slimN f)
set_option maxHeartbeats 8000000 in
theorem lawNode_any : ∀ (m : Nat) (x : Nd) (cs : List Value) (w : World), slimN m x = true → Nd.at w x cs →
    Calls Try.prog 18 #[.agg cs.toArray] w fun e w' => ∃ rs : List Value, e = .returned (.agg rs.toArray) ∧ RefIn (fun k => decide (w.heap.size ≤ k)) w' x rs ∧ Below w.heap.size w w'
  | 0, x, _, _, h, _ => absurd h (by rw [slimN]; simp)
  | m + 1, x, cs, w, hm, hat => by
    obtain ⟨k, s, lo, hi, n, l⟩ := x
    rw [at_mk] at hat
    obtain ⟨hfk, hflo, hfhi, hfn, a, cap, rfl, hmax, hl⟩ := hat
    have hmx : (l.length : Int) ≤ 9223372036854775807 := by unfold maxLen at hmax; omega
    rw [slimN, Bool.and_eq_true, decide_eq_true_eq, List.all_eq_true] at hm
    have hz := zeroRefNode
    have hzs := zero261_size
    obtain ⟨Z, hZ⟩ : ∃ Z, Z = zero261 := ⟨_, rfl⟩
    rw [← hZ] at hz hzs
    have Hzs := Lib.hid hzs
    have Hm := Lib.hid hm
    have Hf := Lib.hid (And.intro hfk (And.intro hflo (And.intro hfhi hfn)))
    have Hih := Lib.hid (lawNode_any m)
    have Hl := Lib.hid hl
    have Hmax := Lib.hid hmax
    obtain ⟨W2, hW2⟩ : ∃ W2, W2 = (w.alloc (.cells #[.int .i64 k, .int .u64 (word s 0), .int .u64 (word s 1), .int .u64 (word s 2), .int .u64 (word s 3), .int .i64 lo, .int .i64 hi, .int .i64 n, .slice a l.length cap] 27)).alloc (.cells Z 36) := ⟨_, rfl⟩
    have hb2 : Below w.heap.size w W2 := by rw [hW2]; exact ((Below.refl _ _).alloc (Nat.le_refl _) _).alloc (by simp) _
    have hs2 : W2.heap.size = w.heap.size + 1 + 1 := by rw [hW2]; simp
    have hn2 : NodeIn W2 w.heap.size #[.int .i64 k, .int .u64 (word s 0), .int .u64 (word s 1), .int .u64 (word s 2), .int .u64 (word s 3), .int .i64 lo, .int .i64 hi, .int .i64 n, .slice a l.length cap] := by
      rw [hW2]; exact (Below.heap_alloc _ _ _ (by simp)).trans (World.alloc_heap_new w _)
    have hr2 : RBox W2 (w.heap.size + 1) Z := by rw [hW2]; have h := rbox_start (w.alloc (.cells #[.int .i64 k, .int .u64 (word s 0), .int .u64 (word s 1), .int .u64 (word s 2), .int .u64 (word s 3), .int .i64 lo, .int .i64 hi, .int .i64 n, .slice a l.length cap] 27)) Z; simpa using h
    have HW := Lib.hid (And.intro hb2 (And.intro hs2 (And.intro hn2 hr2)))
    clear hzs hm hfk hflo hfhi hfn hl hmax hZ hb2 hs2 hn2 hr2
    go_enter Try.func18, Try.ntmps18
    go_upto_region 1 with fail
    rw [← hW2]
    clear hW2
    go_cut [3] from 5 to 16 (fun v wx => ∃ b3, v = .pointer (some ⟨b3, 0, none⟩) ∧ RBox wx b3 (rdCells k s lo hi n (.slice none 0 0)).toArray ∧ W2.heap.size ≤ b3 ∧ Below W2.heap.size W2 wx)
    case first =>
      have hne := Later.nonempty W2
      have hc := fun (L : Later W2) q (hq : w.heap.size < W2.heap.size) => (L.ok.cell (p := ⟨w.heap.size, q, none⟩) hq).trans (cells_at HW.out.2.2.1 q)
      have hlt : w.heap.size < W2.heap.size := by have := HW.out.2.1; omega
      have h0 := fun (L : Later W2) => hc L 0 hlt
      have h5 := fun (L : Later W2) => hc L 5 hlt
      have h6 := fun (L : Later W2) => hc L 6 hlt
      have h7 := fun (L : Later W2) => hc L 7 hlt
      have hl4 : ∀ w', (∃ L : Later W2, w' = L.val) → Set4 w' w.heap.size 1 s := fun w' hw' q hq => by
        obtain ⟨L, rfl⟩ := hw'
        rw [hc L (1 + q) hlt]
        have h4 : q = 0 ∨ q = 1 ∨ q = 2 ∨ q = 3 := by omega
        rcases h4 with rfl | rfl | rfl | rfl <;> rfl
      simp only [List.getElem?_toArray, List.getElem?_cons_zero] at h0 h5 h6 h7
      clear hc hlt
      refine wp_region_eager (.plain 0 (.plain 1 (.plain 2 (.plain 3 (.plain 5 (.plain 6 (.plain 7 (.plain 8 (.plain 9 (.plain 10 (.fork 4 (.plain 11 (.sole 12 (.sole 13 .done))) 12 (.sole 4 (.plain 11 (.sole 13 .done)))))))))))))) (W0 := W2) (Below.refl _ _) (by kernel_rfl) (by kernel_rfl) (fun c a d v w h => by cases d <;> exact h) ?_
      repeat (first
        | (refine' eager_want ?_ ?_ (fun K hK => ?_)
           rotate_left 1
           · simp only [List.getElem?_toArray, List.getElem?_cons_zero, List.getElem?_cons_succ]; exact rfl
           · exact rfl
           first
           | (refine quiet_load_set _ rfl w.heap.size 1 _ rfl hl4 ?_; refine hK _ ?_; clear hK K; try simp only [Act.put, List.setIfInBounds_toArray, List.set_cons_zero, List.set_cons_succ])
           | (go_big_quiet_op; refine hK _ ?_; clear hK K)))
      have hdrew : Below W2.heap.size W2 W2.drew := (Below.refl _ _).drew
      refine eager_fork ?_ ?_
      · refine' step_call ?_ ?_ (fun K hK => ?_)
        rotate_left 1
        · simp only [List.getElem?_toArray, List.getElem?_cons_zero, List.getElem?_cons_succ]; exact rfl
        · exact rfl
        go_simp
        refine (lawOwn_any s _).mono ?_
        rintro e w3 ⟨rfl, hb3⟩
        refine hK _ _ hb3 ?_
        have hcur := hdrew.trans hb3
        clear hb3 hK K
        try simp only [Act.put, List.setIfInBounds_toArray, List.set_cons_zero, List.set_cons_succ]
        refine' eager_want ?_ ?_ (fun K hK => ?_)
        rotate_left 1
        · simp only [List.getElem?_toArray, List.getElem?_cons_zero, List.getElem?_cons_succ]; exact rfl
        · exact rfl
        refine quiet_build_refnode _ _ _ _ _ rfl k s lo hi n rfl rfl rfl rfl rfl ?_
        refine hK _ ?_
        clear hK K
        try simp only [Act.put, List.setIfInBounds_toArray, List.set_cons_zero, List.set_cons_succ]
        refine' eager_call ?_ ?_ (fun K hK => ?_)
        rotate_left 1
        · simp only [List.getElem?_toArray, List.getElem?_cons_zero, List.getElem?_cons_succ]; exact rfl
        · exact rfl
        go_simp
        refine hK _ _ ((Below.refl _ _).alloc (Nat.le_refl _) _) ?_
        clear hK K
        try simp only [Act.put, List.setIfInBounds_toArray, List.set_cons_zero, List.set_cons_succ]
        have hbx := rbox_start w3 Z
        have hcur3 := hcur.alloc hcur.size (.cells Z 36)
        refine' eager_write ?_ ?_ (fun K hK => ?_)
        rotate_left 1
        · simp only [List.getElem?_toArray, List.getElem?_cons_zero, List.getElem?_cons_succ]; exact rfl
        · exact rfl
        refine wp_store_row 36 _ _ rfl (w3.heap.size) _ rfl rfl _ _ hbx (infoRefNode' (rdCells_size k s lo hi n _)) (by rw [Hzs.out]; exact (rdCells_size k s lo hi n _).symm) (rd_one k s lo hi n _ rfl) ?_
        refine hK _ _ (below_row (Below.refl _ _) hcur.size _) ?_
        clear hK K
        refine eager_done ?_
        go_wp2_with fail
        go_meet
        exact ⟨w3.heap.size, rfl, setRow_heap _ _ _ _ _ _ hbx, hcur.size, below_row hcur3 hcur.size _⟩
      · refine' step_call ?_ ?_ (fun K hK => ?_)
        rotate_left 1
        · simp only [List.getElem?_toArray, List.getElem?_cons_zero, List.getElem?_cons_succ]; exact rfl
        · exact rfl
        go_simp
        refine hK _ _ ((Below.refl _ _).alloc (Nat.le_refl _) _) ?_
        clear hK K
        try simp only [Act.put, List.setIfInBounds_toArray, List.set_cons_zero, List.set_cons_succ]
        have hbx := rbox_start W2.drew Z
        have hcur3 := hdrew.alloc hdrew.size (.cells Z 36)
        refine' eager_call ?_ ?_ (fun K hK => ?_)
        rotate_left 1
        · simp only [List.getElem?_toArray, List.getElem?_cons_zero, List.getElem?_cons_succ]; exact rfl
        · exact rfl
        go_simp
        refine (lawOwn_any s _).mono ?_
        rintro e w3 ⟨rfl, hb3⟩
        refine hK _ _ hb3 ?_
        have hcur := hcur3.trans (hb3.mono hcur3.size)
        have hbx3 := hbx.below hb3 hbx.lt
        clear hb3 hK K
        try simp only [Act.put, List.setIfInBounds_toArray, List.set_cons_zero, List.set_cons_succ]
        refine' eager_want ?_ ?_ (fun K hK => ?_)
        rotate_left 1
        · simp only [List.getElem?_toArray, List.getElem?_cons_zero, List.getElem?_cons_succ]; exact rfl
        · exact rfl
        refine quiet_build_refnode _ _ _ _ _ rfl k s lo hi n rfl rfl rfl rfl rfl ?_
        refine hK _ ?_
        clear hK K
        try simp only [Act.put, List.setIfInBounds_toArray, List.set_cons_zero, List.set_cons_succ]
        refine' eager_write ?_ ?_ (fun K hK => ?_)
        rotate_left 1
        · simp only [List.getElem?_toArray, List.getElem?_cons_zero, List.getElem?_cons_succ]; exact rfl
        · exact rfl
        refine wp_store_row 36 _ _ rfl (W2.heap.size) _ rfl rfl _ _ hbx3 (infoRefNode' (rdCells_size k s lo hi n _)) (by rw [Hzs.out]; exact (rdCells_size k s lo hi n _).symm) (rd_one k s lo hi n _ rfl) ?_
        refine hK _ _ (below_row (Below.refl _ _) (Nat.le_refl _) _) ?_
        clear hK K
        refine eager_done ?_
        go_wp2_with fail
        go_meet
        exact ⟨W2.heap.size, rfl, setRow_heap _ _ _ _ _ _ hbx3, Nat.le_refl _, below_row hcur (Nat.le_refl _) _⟩
    case rest =>
      obtain ⟨b3, rfl, hbx, hb3, hbel⟩ := hcut
      -- GEN
      have HB3 := Lib.hid (And.intro hb3 hbx.lt)
      have Hbx := Lib.hid hbx
      have Hbel := Lib.hid hbel
      have Hwlt := Lib.hid (show w.heap.size < W2.heap.size ∧ w.heap.size + 1 < W2.heap.size by have := HW.out.2.1; omega)
      have c8 : wc.cell? ⟨w.heap.size, 8, none⟩ = some (.slice a l.length cap) := by
        rw [hbel.cell (p := ⟨w.heap.size, 8, none⟩) Hwlt.out.1, cells_at HW.out.2.2.1]; rfl
      have HC8 := Lib.hid c8
      clear c8 hbx hbel hb3
      go_upto_region 3 with fail
      go_loopw [4] (fun i wr => ∃ (j : Nat) (v : Value) (acc : List (Nd × List Value)), i = .int .i64 j ∧ j ≤ l.length ∧ Hid (NLoop W2 wc b3 k s lo hi n l j v acc wr)) (fun i _ => l.length - (intOf i).toNat)
      case atStart => exact ⟨0, .slice none 0 0, [], rfl, Nat.zero_le _, ⟨rfl, rfl⟩, (fun p hp => by cases hp), Hbx.out, World.ownsRow_nil _ _ _ _, Hbel.out, Nat.le_refl _⟩
      case round =>
        obtain ⟨j, v, acc, rfl, hj, HNL⟩ := hrel
        have Bw : Below w.heap.size w wr := HW.out.1.trans (HNL.out.2.2.2.2.1.mono HW.out.1.size)
        have c8 : wr.cell? ⟨w.heap.size, 8, none⟩ = some (.slice a l.length cap) := by
          rw [HNL.out.2.2.2.2.1.cell (p := ⟨w.heap.size, 8, none⟩) Hwlt.out.1, cells_at HW.out.2.2.1]; rfl
        by_cases hjl : j < l.length
        · have d1 : decide ((j : Int) < l.length) = true := by simp; omega
          have Hjl := Lib.hid hjl
          obtain ⟨b, off, rfl, hcap, hbw, hnodes⟩ : ∃ b off, a = some ⟨b, off, none⟩ ∧ l.length ≤ cap ∧ b < w.heap.size ∧ nodesAt w l b off := by
            rcases Hl.out with h | h
            · omega
            · exact h
          obtain ⟨cs, hcs, hcell, hchild⟩ := nodes_get w b l off hnodes j hjl
          have hcnt : slimN m l[j] = true := Hm.out.2 _ (List.getElem_mem hjl)
          have hdrew : Below wr.heap.size wr wr.drew := (Below.refl _ _).drew
          have hcall := fun w' (hb : Below wr.heap.size wr w') => Hih.out l[j] cs w' hcnt (Nd.at_below (Bw.trans (hb.mono Bw.size)) (Nat.le_refl _) _ _ hchild)
          have h9 : Node9 wr.drew b (off + j * 9) cs := ⟨hcs, fun q hq => by rw [(Bw.drew).cell (p := ⟨b, off + j * 9 + q, none⟩) hbw]; exact hcell q hq⟩
          have hq : wr.drew.cell? ⟨b3, 260, none⟩ = some v := ref_slice HNL.out.2.2.1
          have c8d : wr.drew.cell? ⟨w.heap.size, 8, none⟩ = some (.slice (some ⟨b, off, none⟩) l.length cap) := c8
          have HjN := Lib.hid (show j < 400000000000 by have := Hm.out.1; omega)
          clear hcs hcell hchild hcnt hnodes hcap
          go_wp2_with fail
          refine wp_region_free (.plain 0 (.plain 2 (.plain 4 (.fork 1 (.sole 3 (.plain 5 (.sole 6 (.sole 7 (.sole 8 (.sole 9 (.plain 10 (.sole 11 .done)))))))) 3 (.plain 5 (.fork 1 (.sole 6 (.sole 7 (.sole 8 (.sole 9 (.plain 10 (.sole 11 .done)))))) 6 (.fork 1 (.sole 7 (.sole 8 (.sole 9 (.plain 10 (.sole 11 .done))))) 7 (.fork 1 (.sole 8 (.sole 9 (.plain 10 (.sole 11 .done)))) 8 (.sole 1 (.sole 9 (.plain 10 (.sole 11 .done)))))))))))) (by kernel_rfl) (by kernel_rfl) (fun c a d v w h => by cases d <;> exact h) ?_
          refine' free_plain ?_ ?_ (fun K hK => ?_)
          rotate_left 1
          · simp only [List.getElem?_toArray, List.getElem?_cons_zero]; exact rfl
          · exact rfl
          go_big_quiet_op
          refine hK _ ?_
          clear hK K
          try simp only [Act.put, List.setIfInBounds_toArray, List.set_cons_zero, List.set_cons_succ]
          refine' free_plain ?_ ?_ (fun K hK => ?_)
          rotate_left 1
          · simp only [List.getElem?_toArray, List.getElem?_cons_zero, List.getElem?_cons_succ]; exact rfl
          · exact rfl
          go_big_quiet_op
          refine hK _ ?_
          clear hK K
          try simp only [Act.put, List.setIfInBounds_toArray, List.set_cons_zero, List.set_cons_succ]
          refine' free_plain ?_ ?_ (fun K hK => ?_)
          rotate_left 1
          · simp only [List.getElem?_toArray, List.getElem?_cons_zero, List.getElem?_cons_succ]; exact rfl
          · exact rfl
          go_big_quiet_op
          refine hK _ ?_
          clear hK K
          try simp only [Act.put, List.setIfInBounds_toArray, List.set_cons_zero, List.set_cons_succ]
          refine free_fork ?_ ?_
          · refine' free_step ?_ ?_ (fun K hK => ?_)
            rotate_left 1
            · simp only [List.getElem?_toArray, List.getElem?_cons_zero, List.getElem?_cons_succ]; exact rfl
            · exact rfl
            unfold Oper.wp execOp
            go_simp
            refine hK _ _ ?_
            clear hK K
            try simp only [Act.put, List.setIfInBounds_toArray, List.set_cons_zero, List.set_cons_succ]
            refine' free_sole ?_ ?_ (fun K hK => ?_)
            rotate_left 1
            · simp only [List.getElem?_toArray, List.getElem?_cons_zero, List.getElem?_cons_succ]; exact rfl
            · exact rfl
            unfold Oper.wp execOp
            go_simp
            refine hK _ _ ?_
            clear hK K
            try simp only [Act.put, List.setIfInBounds_toArray, List.set_cons_zero, List.set_cons_succ]
            refine' free_plain ?_ ?_ (fun K hK => ?_)
            rotate_left 1
            · simp only [List.getElem?_toArray, List.getElem?_cons_zero, List.getElem?_cons_succ]; exact rfl
            · exact rfl
            go_big_quiet_op
            refine hK _ ?_
            clear hK K
            try simp only [Act.put, List.setIfInBounds_toArray, List.set_cons_zero, List.set_cons_succ]
            refine' free_sole ?_ ?_ (fun K hK => ?_)
            rotate_left 1
            · simp only [List.getElem?_toArray, List.getElem?_cons_zero, List.getElem?_cons_succ]; exact rfl
            · exact rfl
            refine wp_load_node9 _ rfl b (off + j * 9) cs rfl h9 ?_
            refine hK _ _ ?_
            clear hK K
            try simp only [Act.put, List.setIfInBounds_toArray, List.set_cons_zero, List.set_cons_succ]
            refine' free_sole ?_ ?_ (fun K hK => ?_)
            rotate_left 1
            · simp only [List.getElem?_toArray, List.getElem?_cons_zero, List.getElem?_cons_succ]; exact rfl
            · exact rfl
            go_simp
            refine (hcall _ hdrew).mono ?_
            rintro e w3 ⟨rs, rfl, hrind, hb3d⟩
            have hb3 : Below wr.heap.size wr w3 := hdrew.trans (hb3d.mono hdrew.size)
            have hrin : RefIn (fun k => decide (wr.heap.size ≤ k)) w3 l[j] rs := hrind
            clear hb3d hrind
            have q3 : w3.cell? ⟨b3, 260, none⟩ = some v := (hb3.cell (p := ⟨b3, 260, none⟩) HNL.out.2.2.1.lt).trans hq
            refine hK _ _ ?_
            clear hK K
            try simp only [Act.put, List.setIfInBounds_toArray, List.set_cons_zero, List.set_cons_succ]
            refine' free_sole ?_ ?_ (fun K hK => ?_)
            rotate_left 1
            · simp only [List.getElem?_toArray, List.getElem?_cons_zero, List.getElem?_cons_succ]; exact rfl
            · exact rfl
            refine wp_build_refrow _ rfl rs (refIn_len hrin) rfl ?_
            have q4 : (w3.alloc (.cells rs.toArray 36)).cell? ⟨b3, 260, none⟩ = some v := (((Below.refl _ _).alloc (Nat.le_refl _) _).cell (p := ⟨b3, 260, none⟩) (World.block_lt_of_cell? w3 _ q3)).trans q3
            refine hK _ _ ?_
            clear hK K
            try simp only [Act.put, List.setIfInBounds_toArray, List.set_cons_zero, List.set_cons_succ]
            refine' free_sole ?_ ?_ (fun K hK => ?_)
            rotate_left 1
            · simp only [List.getElem?_toArray, List.getElem?_cons_zero, List.getElem?_cons_succ]; exact rfl
            · exact rfl
            refine wp_append_refnode _ _ rfl wc.heap.size v j _ rfl ((owns_below HNL.out.2.2.2.1 hb3).alloc _) w3.heap.size rs rfl (rbox_start _ _) (refIn_len hrin) (ref_one_cells hrin) (by have := HjN.out; omega) (by have h1 := HNL.out.2.2.2.2.2; have h2 := hb3.size; simp; omega) ?_
            intro v' w5 hown5 hgr5 hfr5
            obtain ⟨g', cap', rfl⟩ := ownsRow_succ hown5
            have hbx5 := nloop_box HNL.out HB3.out.2 hb3 hgr5
            have h260f := rbox_free hbx5 260
            have h260c := ref_slice hbx5
            have Hst := Lib.hid (nloop_step HNL.out Hjl.out HB3.out.1 HB3.out.2 hb3 hrin hown5 hgr5 hfr5)
            refine hK _ _ ?_
            clear hK K hown5 hgr5 hfr5 hbx5 q4 q3
            try simp only [Act.put, List.setIfInBounds_toArray, List.set_cons_zero, List.set_cons_succ]
            refine' free_plain ?_ ?_ (fun K hK => ?_)
            rotate_left 1
            · simp only [List.getElem?_toArray, List.getElem?_cons_zero, List.getElem?_cons_succ]; exact rfl
            · exact rfl
            go_big_quiet_op
            refine hK _ ?_
            clear hK K
            try simp only [Act.put, List.setIfInBounds_toArray, List.set_cons_zero, List.set_cons_succ]
            refine' free_sole ?_ ?_ (fun K hK => ?_)
            rotate_left 1
            · simp only [List.getElem?_toArray, List.getElem?_cons_zero, List.getElem?_cons_succ]; exact rfl
            · exact rfl
            unfold Oper.wp execOp
            go_simp
            refine hK _ _ ?_
            clear hK K
            refine free_done ?_
            go_wp2_with fail
            go_roundw
            case rel => exact ⟨j + 1, _, _, by go_num, Hjl.out, Hst.out⟩
            case measure => simp [intOf]; omega
          · refine' free_step ?_ ?_ (fun K hK => ?_)
            rotate_left 1
            · simp only [List.getElem?_toArray, List.getElem?_cons_zero, List.getElem?_cons_succ]; exact rfl
            · exact rfl
            unfold Oper.wp execOp
            go_simp
            refine hK _ _ ?_
            clear hK K
            try simp only [Act.put, List.setIfInBounds_toArray, List.set_cons_zero, List.set_cons_succ]
            refine' free_plain ?_ ?_ (fun K hK => ?_)
            rotate_left 1
            · simp only [List.getElem?_toArray, List.getElem?_cons_zero, List.getElem?_cons_succ]; exact rfl
            · exact rfl
            go_big_quiet_op
            refine hK _ ?_
            clear hK K
            try simp only [Act.put, List.setIfInBounds_toArray, List.set_cons_zero, List.set_cons_succ]
            refine free_fork ?_ ?_
            · refine' free_step ?_ ?_ (fun K hK => ?_)
              rotate_left 1
              · simp only [List.getElem?_toArray, List.getElem?_cons_zero, List.getElem?_cons_succ]; exact rfl
              · exact rfl
              unfold Oper.wp execOp
              go_simp
              refine hK _ _ ?_
              clear hK K
              try simp only [Act.put, List.setIfInBounds_toArray, List.set_cons_zero, List.set_cons_succ]
              refine' free_sole ?_ ?_ (fun K hK => ?_)
              rotate_left 1
              · simp only [List.getElem?_toArray, List.getElem?_cons_zero, List.getElem?_cons_succ]; exact rfl
              · exact rfl
              refine wp_load_node9 _ rfl b (off + j * 9) cs rfl h9 ?_
              refine hK _ _ ?_
              clear hK K
              try simp only [Act.put, List.setIfInBounds_toArray, List.set_cons_zero, List.set_cons_succ]
              refine' free_sole ?_ ?_ (fun K hK => ?_)
              rotate_left 1
              · simp only [List.getElem?_toArray, List.getElem?_cons_zero, List.getElem?_cons_succ]; exact rfl
              · exact rfl
              go_simp
              refine (hcall _ hdrew).mono ?_
              rintro e w3 ⟨rs, rfl, hrind, hb3d⟩
              have hb3 : Below wr.heap.size wr w3 := hdrew.trans (hb3d.mono hdrew.size)
              have hrin : RefIn (fun k => decide (wr.heap.size ≤ k)) w3 l[j] rs := hrind
              clear hb3d hrind
              have q3 : w3.cell? ⟨b3, 260, none⟩ = some v := (hb3.cell (p := ⟨b3, 260, none⟩) HNL.out.2.2.1.lt).trans hq
              refine hK _ _ ?_
              clear hK K
              try simp only [Act.put, List.setIfInBounds_toArray, List.set_cons_zero, List.set_cons_succ]
              refine' free_sole ?_ ?_ (fun K hK => ?_)
              rotate_left 1
              · simp only [List.getElem?_toArray, List.getElem?_cons_zero, List.getElem?_cons_succ]; exact rfl
              · exact rfl
              refine wp_build_refrow _ rfl rs (refIn_len hrin) rfl ?_
              have q4 : (w3.alloc (.cells rs.toArray 36)).cell? ⟨b3, 260, none⟩ = some v := (((Below.refl _ _).alloc (Nat.le_refl _) _).cell (p := ⟨b3, 260, none⟩) (World.block_lt_of_cell? w3 _ q3)).trans q3
              refine hK _ _ ?_
              clear hK K
              try simp only [Act.put, List.setIfInBounds_toArray, List.set_cons_zero, List.set_cons_succ]
              refine' free_sole ?_ ?_ (fun K hK => ?_)
              rotate_left 1
              · simp only [List.getElem?_toArray, List.getElem?_cons_zero, List.getElem?_cons_succ]; exact rfl
              · exact rfl
              refine wp_append_refnode _ _ rfl wc.heap.size v j _ rfl ((owns_below HNL.out.2.2.2.1 hb3).alloc _) w3.heap.size rs rfl (rbox_start _ _) (refIn_len hrin) (ref_one_cells hrin) (by have := HjN.out; omega) (by have h1 := HNL.out.2.2.2.2.2; have h2 := hb3.size; simp; omega) ?_
              intro v' w5 hown5 hgr5 hfr5
              obtain ⟨g', cap', rfl⟩ := ownsRow_succ hown5
              have hbx5 := nloop_box HNL.out HB3.out.2 hb3 hgr5
              have h260f := rbox_free hbx5 260
              have h260c := ref_slice hbx5
              have Hst := Lib.hid (nloop_step HNL.out Hjl.out HB3.out.1 HB3.out.2 hb3 hrin hown5 hgr5 hfr5)
              refine hK _ _ ?_
              clear hK K hown5 hgr5 hfr5 hbx5 q4 q3
              try simp only [Act.put, List.setIfInBounds_toArray, List.set_cons_zero, List.set_cons_succ]
              refine' free_plain ?_ ?_ (fun K hK => ?_)
              rotate_left 1
              · simp only [List.getElem?_toArray, List.getElem?_cons_zero, List.getElem?_cons_succ]; exact rfl
              · exact rfl
              go_big_quiet_op
              refine hK _ ?_
              clear hK K
              try simp only [Act.put, List.setIfInBounds_toArray, List.set_cons_zero, List.set_cons_succ]
              refine' free_sole ?_ ?_ (fun K hK => ?_)
              rotate_left 1
              · simp only [List.getElem?_toArray, List.getElem?_cons_zero, List.getElem?_cons_succ]; exact rfl
              · exact rfl
              unfold Oper.wp execOp
              go_simp
              refine hK _ _ ?_
              clear hK K
              refine free_done ?_
              go_wp2_with fail
              go_roundw
              case rel => exact ⟨j + 1, _, _, by go_num, Hjl.out, Hst.out⟩
              case measure => simp [intOf]; omega
            · refine' free_step ?_ ?_ (fun K hK => ?_)
              rotate_left 1
              · simp only [List.getElem?_toArray, List.getElem?_cons_zero, List.getElem?_cons_succ]; exact rfl
              · exact rfl
              refine wp_load_node9 _ rfl b (off + j * 9) cs rfl h9 ?_
              refine hK _ _ ?_
              clear hK K
              try simp only [Act.put, List.setIfInBounds_toArray, List.set_cons_zero, List.set_cons_succ]
              refine free_fork ?_ ?_
              · refine' free_step ?_ ?_ (fun K hK => ?_)
                rotate_left 1
                · simp only [List.getElem?_toArray, List.getElem?_cons_zero, List.getElem?_cons_succ]; exact rfl
                · exact rfl
                unfold Oper.wp execOp
                go_simp
                refine hK _ _ ?_
                clear hK K
                try simp only [Act.put, List.setIfInBounds_toArray, List.set_cons_zero, List.set_cons_succ]
                refine' free_sole ?_ ?_ (fun K hK => ?_)
                rotate_left 1
                · simp only [List.getElem?_toArray, List.getElem?_cons_zero, List.getElem?_cons_succ]; exact rfl
                · exact rfl
                go_simp
                refine (hcall _ hdrew).mono ?_
                rintro e w3 ⟨rs, rfl, hrind, hb3d⟩
                have hb3 : Below wr.heap.size wr w3 := hdrew.trans (hb3d.mono hdrew.size)
                have hrin : RefIn (fun k => decide (wr.heap.size ≤ k)) w3 l[j] rs := hrind
                clear hb3d hrind
                have q3 : w3.cell? ⟨b3, 260, none⟩ = some v := (hb3.cell (p := ⟨b3, 260, none⟩) HNL.out.2.2.1.lt).trans hq
                refine hK _ _ ?_
                clear hK K
                try simp only [Act.put, List.setIfInBounds_toArray, List.set_cons_zero, List.set_cons_succ]
                refine' free_sole ?_ ?_ (fun K hK => ?_)
                rotate_left 1
                · simp only [List.getElem?_toArray, List.getElem?_cons_zero, List.getElem?_cons_succ]; exact rfl
                · exact rfl
                refine wp_build_refrow _ rfl rs (refIn_len hrin) rfl ?_
                have q4 : (w3.alloc (.cells rs.toArray 36)).cell? ⟨b3, 260, none⟩ = some v := (((Below.refl _ _).alloc (Nat.le_refl _) _).cell (p := ⟨b3, 260, none⟩) (World.block_lt_of_cell? w3 _ q3)).trans q3
                refine hK _ _ ?_
                clear hK K
                try simp only [Act.put, List.setIfInBounds_toArray, List.set_cons_zero, List.set_cons_succ]
                refine' free_sole ?_ ?_ (fun K hK => ?_)
                rotate_left 1
                · simp only [List.getElem?_toArray, List.getElem?_cons_zero, List.getElem?_cons_succ]; exact rfl
                · exact rfl
                refine wp_append_refnode _ _ rfl wc.heap.size v j _ rfl ((owns_below HNL.out.2.2.2.1 hb3).alloc _) w3.heap.size rs rfl (rbox_start _ _) (refIn_len hrin) (ref_one_cells hrin) (by have := HjN.out; omega) (by have h1 := HNL.out.2.2.2.2.2; have h2 := hb3.size; simp; omega) ?_
                intro v' w5 hown5 hgr5 hfr5
                obtain ⟨g', cap', rfl⟩ := ownsRow_succ hown5
                have hbx5 := nloop_box HNL.out HB3.out.2 hb3 hgr5
                have h260f := rbox_free hbx5 260
                have h260c := ref_slice hbx5
                have Hst := Lib.hid (nloop_step HNL.out Hjl.out HB3.out.1 HB3.out.2 hb3 hrin hown5 hgr5 hfr5)
                refine hK _ _ ?_
                clear hK K hown5 hgr5 hfr5 hbx5 q4 q3
                try simp only [Act.put, List.setIfInBounds_toArray, List.set_cons_zero, List.set_cons_succ]
                refine' free_plain ?_ ?_ (fun K hK => ?_)
                rotate_left 1
                · simp only [List.getElem?_toArray, List.getElem?_cons_zero, List.getElem?_cons_succ]; exact rfl
                · exact rfl
                go_big_quiet_op
                refine hK _ ?_
                clear hK K
                try simp only [Act.put, List.setIfInBounds_toArray, List.set_cons_zero, List.set_cons_succ]
                refine' free_sole ?_ ?_ (fun K hK => ?_)
                rotate_left 1
                · simp only [List.getElem?_toArray, List.getElem?_cons_zero, List.getElem?_cons_succ]; exact rfl
                · exact rfl
                unfold Oper.wp execOp
                go_simp
                refine hK _ _ ?_
                clear hK K
                refine free_done ?_
                go_wp2_with fail
                go_roundw
                case rel => exact ⟨j + 1, _, _, by go_num, Hjl.out, Hst.out⟩
                case measure => simp [intOf]; omega
              · refine' free_step ?_ ?_ (fun K hK => ?_)
                rotate_left 1
                · simp only [List.getElem?_toArray, List.getElem?_cons_zero, List.getElem?_cons_succ]; exact rfl
                · exact rfl
                go_simp
                refine (hcall _ hdrew).mono ?_
                rintro e w3 ⟨rs, rfl, hrind, hb3d⟩
                have hb3 : Below wr.heap.size wr w3 := hdrew.trans (hb3d.mono hdrew.size)
                have hrin : RefIn (fun k => decide (wr.heap.size ≤ k)) w3 l[j] rs := hrind
                clear hb3d hrind
                have q3 : w3.cell? ⟨b3, 260, none⟩ = some v := (hb3.cell (p := ⟨b3, 260, none⟩) HNL.out.2.2.1.lt).trans hq
                refine hK _ _ ?_
                clear hK K
                try simp only [Act.put, List.setIfInBounds_toArray, List.set_cons_zero, List.set_cons_succ]
                refine free_fork ?_ ?_
                · refine' free_step ?_ ?_ (fun K hK => ?_)
                  rotate_left 1
                  · simp only [List.getElem?_toArray, List.getElem?_cons_zero, List.getElem?_cons_succ]; exact rfl
                  · exact rfl
                  unfold Oper.wp execOp
                  go_simp
                  refine hK _ _ ?_
                  clear hK K
                  try simp only [Act.put, List.setIfInBounds_toArray, List.set_cons_zero, List.set_cons_succ]
                  refine' free_sole ?_ ?_ (fun K hK => ?_)
                  rotate_left 1
                  · simp only [List.getElem?_toArray, List.getElem?_cons_zero, List.getElem?_cons_succ]; exact rfl
                  · exact rfl
                  refine wp_build_refrow _ rfl rs (refIn_len hrin) rfl ?_
                  have q4 : (w3.alloc (.cells rs.toArray 36)).cell? ⟨b3, 260, none⟩ = some v := (((Below.refl _ _).alloc (Nat.le_refl _) _).cell (p := ⟨b3, 260, none⟩) (World.block_lt_of_cell? w3 _ q3)).trans q3
                  refine hK _ _ ?_
                  clear hK K
                  try simp only [Act.put, List.setIfInBounds_toArray, List.set_cons_zero, List.set_cons_succ]
                  refine' free_sole ?_ ?_ (fun K hK => ?_)
                  rotate_left 1
                  · simp only [List.getElem?_toArray, List.getElem?_cons_zero, List.getElem?_cons_succ]; exact rfl
                  · exact rfl
                  refine wp_append_refnode _ _ rfl wc.heap.size v j _ rfl ((owns_below HNL.out.2.2.2.1 hb3).alloc _) w3.heap.size rs rfl (rbox_start _ _) (refIn_len hrin) (ref_one_cells hrin) (by have := HjN.out; omega) (by have h1 := HNL.out.2.2.2.2.2; have h2 := hb3.size; simp; omega) ?_
                  intro v' w5 hown5 hgr5 hfr5
                  obtain ⟨g', cap', rfl⟩ := ownsRow_succ hown5
                  have hbx5 := nloop_box HNL.out HB3.out.2 hb3 hgr5
                  have h260f := rbox_free hbx5 260
                  have h260c := ref_slice hbx5
                  have Hst := Lib.hid (nloop_step HNL.out Hjl.out HB3.out.1 HB3.out.2 hb3 hrin hown5 hgr5 hfr5)
                  refine hK _ _ ?_
                  clear hK K hown5 hgr5 hfr5 hbx5 q4 q3
                  try simp only [Act.put, List.setIfInBounds_toArray, List.set_cons_zero, List.set_cons_succ]
                  refine' free_plain ?_ ?_ (fun K hK => ?_)
                  rotate_left 1
                  · simp only [List.getElem?_toArray, List.getElem?_cons_zero, List.getElem?_cons_succ]; exact rfl
                  · exact rfl
                  go_big_quiet_op
                  refine hK _ ?_
                  clear hK K
                  try simp only [Act.put, List.setIfInBounds_toArray, List.set_cons_zero, List.set_cons_succ]
                  refine' free_sole ?_ ?_ (fun K hK => ?_)
                  rotate_left 1
                  · simp only [List.getElem?_toArray, List.getElem?_cons_zero, List.getElem?_cons_succ]; exact rfl
                  · exact rfl
                  unfold Oper.wp execOp
                  go_simp
                  refine hK _ _ ?_
                  clear hK K
                  refine free_done ?_
                  go_wp2_with fail
                  go_roundw
                  case rel => exact ⟨j + 1, _, _, by go_num, Hjl.out, Hst.out⟩
                  case measure => simp [intOf]; omega
                · refine' free_step ?_ ?_ (fun K hK => ?_)
                  rotate_left 1
                  · simp only [List.getElem?_toArray, List.getElem?_cons_zero, List.getElem?_cons_succ]; exact rfl
                  · exact rfl
                  refine wp_build_refrow _ rfl rs (refIn_len hrin) rfl ?_
                  have q4 : (w3.alloc (.cells rs.toArray 36)).cell? ⟨b3, 260, none⟩ = some v := (((Below.refl _ _).alloc (Nat.le_refl _) _).cell (p := ⟨b3, 260, none⟩) (World.block_lt_of_cell? w3 _ q3)).trans q3
                  refine hK _ _ ?_
                  clear hK K
                  try simp only [Act.put, List.setIfInBounds_toArray, List.set_cons_zero, List.set_cons_succ]
                  refine' free_sole ?_ ?_ (fun K hK => ?_)
                  rotate_left 1
                  · simp only [List.getElem?_toArray, List.getElem?_cons_zero, List.getElem?_cons_succ]; exact rfl
                  · exact rfl
                  unfold Oper.wp execOp
                  go_simp
                  refine hK _ _ ?_
                  clear hK K
                  try simp only [Act.put, List.setIfInBounds_toArray, List.set_cons_zero, List.set_cons_succ]
                  refine' free_sole ?_ ?_ (fun K hK => ?_)
                  rotate_left 1
                  · simp only [List.getElem?_toArray, List.getElem?_cons_zero, List.getElem?_cons_succ]; exact rfl
                  · exact rfl
                  refine wp_append_refnode _ _ rfl wc.heap.size v j _ rfl ((owns_below HNL.out.2.2.2.1 hb3).alloc _) w3.heap.size rs rfl (rbox_start _ _) (refIn_len hrin) (ref_one_cells hrin) (by have := HjN.out; omega) (by have h1 := HNL.out.2.2.2.2.2; have h2 := hb3.size; simp; omega) ?_
                  intro v' w5 hown5 hgr5 hfr5
                  obtain ⟨g', cap', rfl⟩ := ownsRow_succ hown5
                  have hbx5 := nloop_box HNL.out HB3.out.2 hb3 hgr5
                  have h260f := rbox_free hbx5 260
                  have h260c := ref_slice hbx5
                  have Hst := Lib.hid (nloop_step HNL.out Hjl.out HB3.out.1 HB3.out.2 hb3 hrin hown5 hgr5 hfr5)
                  refine hK _ _ ?_
                  clear hK K hown5 hgr5 hfr5 hbx5 q4 q3
                  try simp only [Act.put, List.setIfInBounds_toArray, List.set_cons_zero, List.set_cons_succ]
                  refine' free_plain ?_ ?_ (fun K hK => ?_)
                  rotate_left 1
                  · simp only [List.getElem?_toArray, List.getElem?_cons_zero, List.getElem?_cons_succ]; exact rfl
                  · exact rfl
                  go_big_quiet_op
                  refine hK _ ?_
                  clear hK K
                  try simp only [Act.put, List.setIfInBounds_toArray, List.set_cons_zero, List.set_cons_succ]
                  refine' free_sole ?_ ?_ (fun K hK => ?_)
                  rotate_left 1
                  · simp only [List.getElem?_toArray, List.getElem?_cons_zero, List.getElem?_cons_succ]; exact rfl
                  · exact rfl
                  unfold Oper.wp execOp
                  go_simp
                  refine hK _ _ ?_
                  clear hK K
                  refine free_done ?_
                  go_wp2_with fail
                  go_roundw
                  case rel => exact ⟨j + 1, _, _, by go_num, Hjl.out, Hst.out⟩
                  case measure => simp [intOf]; omega
        · have d1 : decide ((j : Int) < l.length) = false := by simp; omega
          obtain rfl : j = l.length := by omega
          have hv1 : v.oneCell' = true := by
            rcases HNL.out.2.2.2.1.2 with ⟨rfl, _⟩ | ⟨_, _, _, rfl, _⟩ <;> rfl
          have hres : RefIn (fun k => decide (wc.heap.size ≤ k)) wr (.mk k s lo hi n l) (rdCells k s lo hi n v) :=
            refIn_made Hf.out acc (by rw [HNL.out.1.2, List.take_length]) Hmax.out (fun q hq => (HNL.out.2.1 q hq).mono (Nat.le_refl _) fun q hq _ => by simp only [Bool.and_eq_true] at hq; exact ⟨hq.1, rfl⟩) (fun k hk => by simpa using hk) HNL.out.2.2.2.1
          have h261 : Ref261 wr b3 0 (rdCells k s lo hi n v) := ⟨rdCells_length .., fun q hq => by
            have h := cells_at (show wr.heap[b3]? = some (.cells (rdCells k s lo hi n v).toArray 36 (0, 0)) from HNL.out.2.2.1) q
            rw [Nat.zero_add, h]; simp⟩
          have hone := rd_one k s lo hi n v hv1
          have hlen := rdCells_length k s lo hi n v
          have hZb : RBox wr (w.heap.size + 1) Z := HW.out.2.2.2.below HNL.out.2.2.2.2.1 Hwlt.out.2
          have hwc : w.heap.size + 1 < wc.heap.size := by have := HB3.out; have := Hwlt.out; omega
          generalize rdCells k s lo hi n v = C at hres h261 hone hlen
          have Hres := Lib.hid hres
          have Hone := Lib.hid hone
          have Hlen := Lib.hid hlen
          have HZb := Lib.hid hZb
          have Hwc := Lib.hid hwc
          have HBw := Lib.hid Bw
          have H261 := Lib.hid h261
          clear hres hone hlen hv1 hZb HNL hj hjl hwc Bw h261
          go_wp2_with (first
            | (refine wpList_load_refnode rfl _ rfl b3 0 C rfl H261.out ?_)
            | (refine wpList_store_row rfl 36 _ _ rfl (w.heap.size + 1) _ rfl rfl _ _ HZb.out (infoRefNode' (by rw [List.size_toArray]; exact Hlen.out)) (by rw [Hzs.out, List.size_toArray]; exact Hlen.out.symm) Hone.out ?_)
            | fail)
          refine bodyPost_ret (v := .agg C.toArray) (results_cell_row Try.results18 _ _ (w.heap.size + 1) _ _ _ _ rfl (setRow_heap wr _ _ C.toArray _ _ HZb.out) Try.underlying36 rfl (infoRefNode' (by rw [List.size_toArray]; exact Hlen.out))) rfl ⟨C, rfl, ?_, below_row HBw.out (by omega) _⟩
          refine Hres.out.mono (by simp) fun q hq hlt => ?_
          simp only [decide_eq_true_eq] at hq ⊢
          exact ⟨by have := Hwc.out; omega, setRow_other wr _ q _ (by have := Hwc.out; omega)⟩
end Go.Proofs.Ytaanhijjhllckaa
