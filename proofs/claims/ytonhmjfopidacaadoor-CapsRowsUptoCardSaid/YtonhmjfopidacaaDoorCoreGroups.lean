/- core.Groups, walked: a range over a function whose rounds draw their orders. -/
import Derived.Test.YtonhmjfopidacaaDoorCoreGood
import Derived.Test.YtonhmjfopidacaaDoorCoreParts
import Derived.Test.YtonhmjfopidacaaDoorCoreKit
import Derived.Test.YtonhmjfopidacaaDoorCoreVisit
import Derived.Deep.LoopGhost
import Derived.Lib.AppendIntMem
import Derived.Deep.DeepCutAuto
import Derived.StillTailTactics
import Derived.Test.YtonhmjfopidacaaDoorRound
import Derived.RangeFuncBox
import Derived.Maps.OwnIn
import Derived.Maps.AppendAt
namespace Go.Proofs.YtonhmjfopidacaaDoor
namespace K
set_option maxRecDepth 100000
open Go.RowKit Go.Shelf
attribute [local go_sem] Oper.semAt_some
theorem free_fork3 {P : Program} {ops : Array Oper} {Q : Exit → Act → World → Prop} {i j k : Nat} {r s t : Plan} {a : Act} {w : World} (h1 : stepFree P ops Q i (wpFree P ops Q r) a w) (h2 : stepFree P ops Q j (wpFree P ops Q s) a w) (h3 : stepFree P ops Q k (wpFree P ops Q t) a w) : wpFree P ops Q (.fork3 i r j s k t) a w := ⟨h1, h2, h3⟩
theorem wp_load_core {o : Oper} {a : Act} {w : World} {K : Act → World → Prop} {Q : Exit → Act → World → Prop} (x : Operand) (ho : o.op = .load 28 x) (b off : Nat) (cs : List Value) (hx : a.eval x = .pointer (some ⟨b, off, none⟩)) (hc : Core7 w b off cs)
    (h : K (a.put o.dst (.agg cs.toArray)) w) : o.wp Tryd.prog a w K Q := by
  unfold Oper.wp execOp
  simp only [ho, hx, Instr.loadAt, Instr.sureAddr, Sem.run_bind, Sem.run_pure, Result.andThen_ok, loadCore hc]
  exact h
theorem drew_below (w : World) : Below w.heap.size w w.drew := (Below.refl _ _).drew
def intCells (l : List Int) : List Value := l.map fun z => .int .i64 z
theorem intCells_append (l m : List Int) : intCells (l ++ m) = intCells l ++ intCells m := List.map_append
theorem intCells_one_cell (l : List Int) : ∀ u ∈ intCells l, u.oneCell' = true := fun u hu => by
  obtain ⟨z, _, rfl⟩ := List.mem_map.1 hu
  rfl
theorem int_key : Maps.Keyed Tryd.prog 3 := Maps.int_keyed Tryd.underlying3
def keyI (z : Int) : Lit := .int .i64 z
theorem keyI_of (z : Int) (h : fits64 z) : keyOf Tryd.prog 3 (.int .i64 z) = some (keyI z) := by
  rw [keyOf_int Tryd.underlying3]
  unfold mapKey
  rw [Tryd.underlying3]
  exact if_pos ⟨rfl, h⟩
theorem keyI_inj {s t : Int} (h : keyI s = keyI t) : s = t := by injection h
theorem keyI_lit (z : Int) (h : fits64 z) : WideAt.IsKeyLit (keyI z) := int_key.key (keyI_of z h)
/-! the groups of a row of parts -/
def addI (acc : List Int) (n : Int) : List Int := if n ∈ acc then acc else acc ++ [n]
def accG : List Cr → List Int → List Int
  | [], acc => acc
  | .mk k _ n _ :: l, acc => accG l (if k = 6 then addI acc n else acc)
theorem accG_append (l m : List Cr) (acc : List Int) : accG (l ++ m) acc = accG m (accG l acc) := by
  induction l generalizing acc with
  | nil => rfl
  | cons x l ih => cases x; exact ih _
theorem addI_length (acc : List Int) (s : Int) : (addI acc s).length ≤ acc.length + 1 := by
  unfold addI; split <;> simp
theorem accG_length (l : List Cr) (acc : List Int) : (accG l acc).length ≤ acc.length + l.length := by
  induction l generalizing acc with
  | nil => exact Nat.le_refl _
  | cons x l ih =>
    cases x with
    | mk k s n ls =>
      have h := ih (if k = 6 then addI acc n else acc)
      have h2 := addI_length acc n
      show (accG l _).length ≤ _
      simp only [List.length_cons]
      split at h
      · rename_i hk; rw [if_pos hk]; omega
      · rename_i hk; rw [if_neg hk]; omega
def groupsC (x : Cr) : List Int := if goodC x then accG x.pre [] else []
/-- what Groups holds between two rounds -/
def IntsF (n₀ : Nat) (w0 : World) (bS mb bM : Nat) (v : Value) (acc : List Int) (D : DataW Unit) (W : World) : Prop :=
  Boxed W bS 71 v ∧ W.ownsRow n₀ 3 1 v acc.length (intCells acc) ∧ Boxed W bM 124 (.map (some mb)) ∧ W.ownsMap Tryd.prog 3 unitElem mb acc.length D ∧ Below n₀ w0 W
def IntsD (acc : List Int) (D : DataW Unit) : Prop := Maps.IsMap D ∧ ∀ s, Maps.has D (keyI s) = decide (s ∈ acc)
theorem IntsF.kept {n₀ : Nat} {w0 : World} {bS mb bM : Nat} {v : Value} {acc : List Int} {D : DataW Unit} {W W' : World} {row : Option Nat} (h : IntsF n₀ w0 bS mb bM v acc D W) (hg : W.grownBy W' row)
    (h1 : some bS ≠ row) (h2 : some bM ≠ row) (h3 : some mb ≠ row) (h4 : v.ownBlock = none ∨ v.ownBlock ≠ row) (h5 : ∀ k, row = some k → n₀ ≤ k) (hn : n₀ ≤ W.heap.size) : IntsF n₀ w0 bS mb bM v acc D W' :=
  ⟨h.1.kept hg h1, h.2.1.kept hg h4, h.2.2.1.kept hg h2, h.2.2.2.1.kept hg h3, h.2.2.2.2.grown hg hn h5⟩
theorem row_cells {W : World} {base : Nat} {e : TypeId} {size : Nat} {v : Value} {k : Nat} {xs : List Value} (h : W.ownsRow base e size v k xs) {l : Nat} (hl : ∃ o : Obj, W.heap[l]? = some o ∧ o.isCells = false) : v.ownBlock = none ∨ v.ownBlock ≠ some l := by
  rcases h.2 with ⟨rfl, _⟩ | ⟨g, cap, cur, rfl, _, hgb, _⟩
  · exact .inl rfl
  · refine .inr fun e' => ?_
    obtain rfl : g = l := by simpa [Value.ownBlock] using e'
    obtain ⟨o, ho, hc⟩ := hl
    rw [hgb] at ho; cases ho; cases hc
theorem IntsF.ownF {n₀ B : Nat} {w0 : World} {bS mb bM : Nat} {v : Value} {acc : List Int} {D : DataW Unit} (h1 : bS < B) (h2 : bM < B) (h3 : mb < B) (hn : n₀ ≤ B) (hw : n₀ ≤ w0.heap.size) : OwnFrom B (fun (_ : Unit) W => IntsF n₀ w0 bS mb bM v acc D W) := by
  intro q W W' row h hg hr
  refine h.kept hg (fun e => ?_) (fun e => ?_) (fun e => ?_) ?_ (fun k e => Nat.le_trans hn (hr k e).1) (Nat.le_trans hw h.2.2.2.2.size)
  · have := (hr _ e.symm).1; omega
  · have := (hr _ e.symm).1; omega
  · have := (hr _ e.symm).1; omega
  · cases row with
    | none =>
      rcases h.2.1.2 with ⟨e, _⟩ | ⟨g, cap, cur, e, _⟩
      · exact .inl (by rw [e]; rfl)
      · rw [e]; exact .inr (by simp [Value.ownBlock])
    | some l => exact row_cells h.2.1 (hr l rfl).2
theorem IntsF.alloc {n₀ : Nat} {w0 : World} {bS mb bM : Nat} {v : Value} {acc : List Int} {D : DataW Unit} {W : World} (h : IntsF n₀ w0 bS mb bM v acc D W) (hn : n₀ ≤ W.heap.size) (o : Obj) : IntsF n₀ w0 bS mb bM v acc D (W.alloc o) :=
  h.kept (World.grownBy_alloc W o none) (by simp) (by simp) (by simp) (Decidable.em _) (fun k e => by cases e) hn
theorem block_kept {W W' : World} {row : Option Nat} {b : Nat} {o : Obj} (h : W.heap[b]? = some o) (hg : W.grownBy W' row) (hne : some b ≠ row) : W'.heap[b]? = some o := (hg.block b (Array.getElem?_eq_some_iff.1 h).1 hne).trans h
theorem map_block {W : World} {P : Program} {k : TypeId} {R : Value → Option (DataW Unit × List MemPlace)} {b n : Nat} {D : DataW Unit} (h : W.ownsMap P k R b n D) : ∃ o : Obj, W.heap[b]? = some o ∧ o.isCells = false := by
  obtain ⟨es, ck, hh, _⟩ := h
  exact ⟨_, hh, rfl⟩
def IntsI (w w1 w0 : World) (pre : List (NV w)) (W : World) : Prop :=
  ∃ v D, IntsF w1.heap.size w0 w1.heap.size (w1.heap.size + 1) (w1.heap.size + 1 + 1) v (accG (nds pre) []) D W ∧ IntsD (accG (nds pre) []) D
theorem IntsI.own {w w1 w0 : World} (h : w1.heap.size + 1 + 1 < w0.heap.size) : OwnFrom w0.heap.size (IntsI w w1 w0) := by
  rintro q W W' row ⟨v, D, hF, hD⟩ hg hr
  exact ⟨v, D, IntsF.ownF (by omega) (by omega) (by omega) (by omega) (by omega) () W W' row hF hg hr, hD⟩
theorem owns_base_int {w : World} {B B' n : Nat} {v : Value} {xs : List Value} (h : w.ownsRow B 3 1 v n xs) (hB : B' ≤ B) : w.ownsRow B' 3 1 v n xs := by
  refine ⟨h.1, ?_⟩
  rcases h.2 with h2 | ⟨g, cap, cur, e, hb, rest⟩
  · exact .inl h2
  · exact .inr ⟨g, cap, cur, e, Nat.le_trans hB hb, rest⟩
theorem zero_unit (w : World) : (zeroValue 125).run Tryd.prog w = .ok (.agg #[]) w := by kernel_rfl
theorem IntsD.same {acc : List Int} {D : DataW Unit} (h : IntsD acc D) {s : Int} (hs : s ∈ acc) : IntsD (addI acc s) D := by
  unfold addI; rw [if_pos hs]; exact h
theorem IntsD.more {acc : List Int} {D : DataW Unit} (h : IntsD acc D) {s : Int} (hf : fits64 s) (hs : s ∉ acc) (d : DataW Unit) : IntsD (addI acc s) (D.put (keyI s) d) := by
  unfold addI; rw [if_neg hs]
  refine ⟨h.1.put _ _, fun t => ?_⟩
  by_cases ht : t = s
  · subst ht
    rw [Maps.has_put_same h.1 (keyI_lit t hf)]; simp
  · rw [Maps.has_put_other (fun e => ht (keyI_inj e)), h.2 t]
    simp [ht]
theorem below_grown {w w' : World} (h : Below w.heap.size w w') : w.grownBy w' none := ⟨h.os, h.tape, h.output, h.size, fun k hk _ => h.block k hk⟩
theorem map_later {W W' : World} {b n : Nat} {D : DataW Unit} (h : W.ownsMap Tryd.prog 3 unitElem b n D) (hb : Below W.heap.size W W') : W'.ownsMap Tryd.prog 3 unitElem b n D := h.kept (below_grown hb) (by simp)
theorem wp_lookup_unit {o : Oper} {a : Act} {w : World} {K : Act → World → Prop} {Q : Exit → Act → World → Prop} (m x : Operand) (t : TypeId) (hop : o.op = Op.lookup t m x true) (b n : Nat) (D : DataW Unit) (hm : a.eval m = .map (some b))
    (hown : w.ownsMap Tryd.prog 3 unitElem b n D) (z : Int) (hz : fits64 z) (hx : a.eval x = .int .i64 z) {ht : Tryd.prog.underlying t = some (.map 3 125)} (hK : K (a.put o.dst (.tuple #[.agg #[], .bool (Maps.has D (keyI z))])) w) : o.wp Tryd.prog a w K Q := by
  obtain ⟨v, ps, hrun, hv⟩ := hown.look_ok int_key ht (zero_unit w) unitElem_mk (keyI_of z hz)
  obtain ⟨rfl, _⟩ := unitElem_inv hv
  unfold Oper.wp execOp
  simp only [hop, hm, hx, hrun, Sem.run_bind, Sem.run_pure, Result.andThen_ok]
  exact hK
theorem wp_mapUpdate_unit {o : Oper} {a : Act} {w : World} {K : Act → World → Prop} {Q : Exit → Act → World → Prop} (m x v : Operand) (t : TypeId) (hop : o.op = Op.mapUpdate t m x v) (b n : Nat) (D : DataW Unit) (hm : a.eval m = .map (some b))
    (hown : w.ownsMap Tryd.prog 3 unitElem b n D) (hn : n < maxLen) (z : Int) (hz : fits64 z) (hx : a.eval x = .int .i64 z) (hv : a.eval v = .agg #[]) {ht : Tryd.prog.underlying t = some (.map 3 125)}
    (hK : ∀ w', w'.ownsMap Tryd.prog 3 unitElem b (n + 1) (D.put (keyI z) (.agg [])) → w.grownBy w' (some b) → K (a.put o.dst undef) w') : o.wp Tryd.prog a w K Q := by
  obtain ⟨w', hrun, r1, r2⟩ := hown.update int_key ht hn (keyI_of z hz) unitElem_mk
  unfold Oper.wp execOp
  simp only [hop, hm, hx, hv, hrun, Sem.run_bind, Sem.run_pure, Result.andThen_ok]
  exact hK w' r1 r2
theorem info_intz : (Tryd.prog.info? 3).map (fun i => (i.zero, i.size, i.bytes)) = some (some (.int .i64 0), 1, 8) := by kernel_rfl
theorem wp_append_int {o : Oper} {a : Act} {w : World} {K : Act → World → Prop} {Q : Exit → Act → World → Prop} (s x : Operand) (ho : o.op = .call { callee := .builtin .append, args := #[s, x], argTypes := #[71, 71] }) (base : Nat) (v : Value) (n : Nat) (xs : List Value) (hs : a.eval s = v)
    (hown : w.ownsRow base 3 1 v n xs) (b : Nat) (z : Int) (hx : a.eval x = .slice (some ⟨b, 0, none⟩) 1 1) (hc : w.cell? ⟨b, 0, none⟩ = some (.int .i64 z)) (hn : n < 1000000000000) (hbase : base ≤ w.heap.size)
    (h : ∀ v' w', w'.ownsRow base 3 1 v' (n + 1) (xs ++ [.int .i64 z]) → w.grownBy w' v.ownBlock → K (a.put o.dst v') w') : o.wp Tryd.prog a w K Q := by
  obtain ⟨i0, hi, hz0, hz1, hz2⟩ := info_parts info_intz
  obtain ⟨v', w', hr, h2, h3, _⟩ := run_append_own (P := Tryd.prog) w base 71 o.type 3 i0 (.int .i64 0) 1 8 Tryd.underlying71 hi hz0 hz1 hz2 rfl (by decide) v n xs hown ⟨b, 0, none⟩ 1 1 [.int .i64 z] rfl (fun j u hj => by
    cases j with
    | zero => injection hj with e; subst e; rw [addr_at]; exact hc
    | succ j => simp at hj) (fun u hu => by rw [List.mem_singleton] at hu; subst hu; rfl) (by unfold maxLen; omega) (by omega) hbase
  unfold Oper.wp execOp
  simp only [ho, resolve, invoke, builtin, Sem.run_bind, Sem.run_pure, Result.andThen_ok, List.map_toArray, List.map_cons, List.map_nil, hs, hx, hr]
  exact h v' w' h2 h3
/-- behind the map's store -/
def F10 (n₀ : Nat) (w0 W3 : World) (bS mb bM bo bx : Nat) (o : Obj) (cs : Array Value) (v : Value) (acc : List Int) (D : DataW Unit) (W : World) : Prop :=
  Boxed W bS 71 v ∧ W.ownsRow n₀ 3 1 v acc.length (intCells acc) ∧ Boxed W bM 124 (.map (some mb)) ∧ W.ownsMap Tryd.prog 3 unitElem mb (acc.length + 1) D ∧ Below n₀ w0 W ∧ W.heap[bo]? = some o ∧ CoreIn W bx cs ∧ KeepsFrom w0.heap.size W3 W ∧ W3.heap.size ≤ W.heap.size
theorem step10 {n₀ : Nat} {w0 W3 wc wm : World} {bS mb bM bo bx : Nat} {o : Obj} {cs : Array Value} {v : Value} {acc : List Int} {D D' : DataW Unit} (hS : IntsF n₀ w0 bS mb bM v acc D W3) (ho : W3.heap[bo]? = some o) (hX : CoreIn W3 bx cs) (hb : Below W3.heap.size W3 wc)
    (hown : wm.ownsMap Tryd.prog 3 unitElem mb (acc.length + 1) D') (hg : wc.grownBy wm (some mb)) (h1 : bS ≠ mb) (h2 : bM ≠ mb) (h3 : bo ≠ mb) (h4 : bx ≠ mb) (h5 : n₀ ≤ mb) (h6 : n₀ ≤ W3.heap.size) (h7 : mb < w0.heap.size) :
    F10 n₀ w0 W3 bS mb bM bo bx o cs v acc D' wm := by
  have hS2 := hS.kept (below_grown hb) (by simp) (by simp) (by simp) (Decidable.em _) (fun k e => by cases e) h6
  have hs := hb.size
  exact ⟨hS2.1.kept hg (by simpa using h1), hS2.2.1.kept hg (row_cells hS2.2.1 (map_block hS2.2.2.2.1)), hS2.2.2.1.kept hg (by simpa using h2), hown, hS2.2.2.2.2.grown hg (by omega) (fun k e => by injection e with e; omega),
    block_kept ((hb.block _ (block_lt ho)).trans ho) hg (by simpa using h3), block_kept ((hb.block _ (lt_of_block hX)).trans hX) hg (by simpa using h4), (keepsFrom_below hb).trans (KeepsFrom.of_grownBy hg (fun j e => by injection e with e; omega)), Nat.le_trans hs hg.size⟩
/-- behind the append -/
theorem step11 {n₀ : Nat} {w0 W3 wm wc wa : World} {bS mb bM bo bx : Nat} {o tmp : Obj} {cs : Array Value} {v v' : Value} {acc : List Int} {D : DataW Unit} {z : Int} (h : F10 n₀ w0 W3 bS mb bM bo bx o cs v acc D wm) (hb : Below wm.heap.size wm wc)
    (hown : wa.ownsRow n₀ 3 1 v' (acc.length + 1) (intCells acc ++ [.int .i64 z])) (hg : (wc.alloc tmp).grownBy wa v.ownBlock) (h1 : bS ≠ mb) (h3 : bo ≠ bS) (h4 : some bo ≠ v.ownBlock) (h5 : some mb ≠ v.ownBlock) (h6 : n₀ ≤ W3.heap.size) (h7 : n₀ ≤ bS) (h8 : bM ≠ bS) :
    Boxed wa bS 71 v ∧ IntsF n₀ w0 bS mb bM v' (acc ++ [z]) D (wa.setCell ⟨bS, 0, none⟩ v') ∧ (wa.setCell ⟨bS, 0, none⟩ v').heap[bo]? = some o ∧ KeepsFrom w0.heap.size W3 (wa.setCell ⟨bS, 0, none⟩ v') := by
  have hk := below_grown hb
  have hsm := h.2.2.2.2.2.2.2.2
  have hs := hb.size
  have hS := h.1.kept hk (by simp)
  have hrow := h.2.1.kept hk (Decidable.em _)
  have hM := h.2.2.1.kept hk (by simp)
  have hmap := h.2.2.2.1.kept hk (by simp)
  have hB := h.2.2.2.2.1.grown hk (by omega) (fun k e => by cases e)
  have ho := (hb.block _ (block_lt h.2.2.2.2.2.1)).trans h.2.2.2.2.2.1
  obtain ⟨hv1, hv2, hr2, hk2, hb2⟩ := hS.appended (by decide) hrow (by omega) h7 hown hg
  refine ⟨hv1, ⟨hv2, ?_, ?_, ?_, hB.trans hb2⟩, ?_, (h.2.2.2.2.2.2.2.1.trans (keepsFrom_below hb)).trans (hk2.from _)⟩
  · rw [List.length_append, intCells_append]; exact hr2
  · exact ((hM.alloc _).kept hg (hM.not_row (by decide) hrow)).kept (grownBy_setCell' _ _ _) (by simpa using h8)
  · rw [List.length_append]
    exact ((hmap.alloc (o := tmp)).kept hg h5).kept (grownBy_setCell' _ _ _) (by simpa using h1.symm)
  · exact (Below.heap_setCell _ _ _ _ h3).trans (block_kept ((Below.heap_alloc wc _ _ (block_lt ho)).trans ho) hg h4)
theorem field_walk (k : Int) (s : BitVec 256) (n : Int) (a : Option Addr) (len cap : Nat) (w : World) : Calls Tryd.prog 54 #[.agg #[.int .i64 k, .int .u64 (word s 0), .int .u64 (word s 1), .int .u64 (word s 2), .int .u64 (word s 3), .int .i64 n, .slice a len cap]] w fun e w' => e = .returned (.int .i64 n) ∧ Below w.heap.size w w' := by
  go_enter Tryd.func54, Tryd.ntmps54
  go_wp2_with fail
  go_ret
  exact ⟨rfl, alloc_below w _⟩
set_option maxRecDepth 100000 in
set_option maxHeartbeats 4000000 in
theorem firsts_walk {x : Cr} {cs : List Value} {w : World} (hat : Cr.at w x cs) (hgx : goodC x = true) :
    Calls Tryd.prog 53 #[.agg cs.toArray, .int .i64 6, .func (Fn.func 54) #[] #[]] w fun e w' => ∃ a cap, e = .returned (.slice a (groupsC x).length cap) ∧ w'.ownsRow w.heap.size 3 1 (.slice a (groupsC x).length cap) (groupsC x).length (intCells (groupsC x)) ∧ Below w.heap.size w w' := by
  have hmm := @run_makeMap Tryd.prog
  have hA0 : groupsC x = accG (x.pre.take 100000) [] := by
    unfold groupsC
    rw [if_pos hgx]
    have hc : x.count ≤ 2000 := by unfold goodC at hgx; simp at hgx; exact hgx.1
    rw [List.take_of_length_le (by rw [Cr.pre_length]; omega)]
  obtain ⟨A, hA⟩ : ∃ A, A = groupsC x := ⟨_, rfl⟩
  rw [← hA]
  rw [← hA] at hA0
  have HA := Lib.hid hA0
  clear hA hA0
  obtain ⟨k, s, n, a, len, cap, rfl⟩ := at_lit hat
  obtain ⟨WB, hWB⟩ : ∃ WB, WB = ((w.alloc (.cells #[.int .i64 k, .int .u64 (word s 0), .int .u64 (word s 1), .int .u64 (word s 2), .int .u64 (word s 3), .int .i64 n, .slice a len cap] 28)).alloc (.cells #[.int .i64 6] 3)).alloc (.cells #[.func (Fn.func 54) #[] #[]] 110) := ⟨_, rfl⟩
  have hbB : Below w.heap.size w WB := by rw [hWB]; exact ((alloc_below w _).alloc (by simp) _).alloc (by simp; omega) _
  have hsB : WB.heap.size = w.heap.size + 3 := by rw [hWB]; simp
  have hc0 : CoreIn WB w.heap.size #[.int .i64 k, .int .u64 (word s 0), .int .u64 (word s 1), .int .u64 (word s 2), .int .u64 (word s 3), .int .i64 n, .slice a len cap] := by
    rw [hWB]; exact (Below.heap_alloc _ _ _ (by simp; omega)).trans ((Below.heap_alloc _ _ _ (by simp)).trans (World.alloc_heap_new w _))
  have hk0 : Var WB (w.heap.size + 1) (.int .i64 6) 3 := by
    rw [hWB]
    have h := Var.new (w.alloc (.cells #[.int .i64 k, .int .u64 (word s 0), .int .u64 (word s 1), .int .u64 (word s 2), .int .u64 (word s 3), .int .i64 n, .slice a len cap] 28)) (.int .i64 6) 3
    rw [World.size_alloc] at h
    exact h.alloc _
  have hf0 : Var WB (w.heap.size + 2) (.func (Fn.func 54) #[] #[]) 110 := by
    rw [hWB]
    have h := Var.new ((w.alloc (.cells #[.int .i64 k, .int .u64 (word s 0), .int .u64 (word s 1), .int .u64 (word s 2), .int .u64 (word s 3), .int .i64 n, .slice a len cap] 28)).alloc (.cells #[.int .i64 6] 3)) (.func (Fn.func 54) #[] #[]) 110
    rw [World.size_alloc, World.size_alloc] at h
    exact h
  have hgood := good_walk (Cr.at_below hbB (Nat.le_refl _) _ _ hat)
  rw [hgx] at hgood
  have hatB := fun (W : World) (h : Below WB.heap.size WB W) => Cr.at_below (hbB.trans (h.mono hbB.size)) (Nat.le_refl _) _ _ hat
  refine (callsIn_wide (n := 3)).1 ?_
  refine callsIn_of_wp_marks Tryd.func53 rfl trivial ?_ rfl
  have Hat := Lib.hid hat
  have HatB := Lib.hid hatB
  have Hgood := Lib.hid hgood
  have H0 := Lib.hid (And.intro hbB (And.intro hsB (And.intro hc0 (And.intro hk0 hf0))))
  have hcB := cells_at hc0
  clear hat hatB hgood hbB hsB hc0 hk0 hf0 hgx
  simp only [Tryd.ntmps53, List.size_toArray, List.length_cons, List.length_nil, Nat.reduceAdd, Nat.reduceSub, Array.replicate_succ, Array.replicate_zero, List.push_toArray, List.append_toArray, List.nil_append, List.cons_append]
  have hno := fun w' => (callsIn_wide (n := 2)).2 (nodes_walk Hat.out w')
  gi_wp2_with (first
    | (refine ⟨trivial, ?_⟩; gi_at_call 34; rw [← hWB]; refine (callsIn_wide.2 Hgood.out).mono ?_; rintro e w1 ⟨rfl, hb1⟩
       have Hb1 := Lib.hid hb1
       have hcw : ∀ q, (((w1.alloc (.cells #[.slice none 0 0] 71)).alloc (.map #[] 0)).alloc (.cells #[.map (some (w1.heap.size + 1))] 124)).cell? ⟨w.heap.size, q, none⟩ = (#[.int .i64 k, .int .u64 (word s 0), .int .u64 (word s 1), .int .u64 (word s 2), .int .u64 (word s 3), .int .i64 n, .slice a len cap] : Array Value)[q]? := fun q => by
         have hlt : w.heap.size < WB.heap.size := by have := H0.out.2.1; omega
         have hbb : Below WB.heap.size WB (((w1.alloc (.cells #[.slice none 0 0] 71)).alloc (.map #[] 0)).alloc (.cells #[.map (some (w1.heap.size + 1))] 124)) := ((hb1.alloc hb1.size _).alloc (by have := hb1.size; simp; omega) _).alloc (by have := hb1.size; simp; omega) _
         rw [hbb.cell (p := ⟨w.heap.size, q, none⟩) hlt]
         exact hcB q
       clear hb1)
    | (refine ⟨trivial, ?_⟩; gi_at_call 50; refine (hno _).mono ?_; clear hno; rintro e w' ⟨rfl, rfl⟩))
  obtain ⟨w0, hw0⟩ : ∃ w0, w0 = (((w1.alloc (.cells #[.slice none 0 0] 71)).alloc (.map #[] 0)).alloc (.cells #[.map (some (w1.heap.size + 1))] 124)).alloc (.cells #[.int .i64 k, .int .u64 (word s 0), .int .u64 (word s 1), .int .u64 (word s 2), .int .u64 (word s 3), .int .i64 n, .slice a len cap] 28) := ⟨_, rfl⟩
  rw [← hw0]
  have hs0 : w0.heap.size = w1.heap.size + 4 := by rw [hw0]; simp
  have hfacts : Below w1.heap.size w1 w0 ∧ Core7 w0 (w1.heap.size + 1 + 1 + 1) 0 [.int .i64 k, .int .u64 (word s 0), .int .u64 (word s 1), .int .u64 (word s 2), .int .u64 (word s 3), .int .i64 n, .slice a len cap] ∧ Boxed w0 w1.heap.size 71 (.slice none 0 0) ∧ Boxed w0 (w1.heap.size + 1 + 1) 124 (.map (some (w1.heap.size + 1))) ∧ w0.ownsMap Tryd.prog 3 (unitElem (H := Unit)) (w1.heap.size + 1) 0 (.map []) := by
    have e := hw0
    generalize hWA : w1.alloc (.cells #[.slice none 0 0] 71) = WA at e
    have sA : WA.heap.size = w1.heap.size + 1 := by rw [← hWA]; simp
    have bA : Below w1.heap.size w1 WA := by rw [← hWA]; exact alloc_below w1 _
    have vA : Boxed WA w1.heap.size 71 (.slice none 0 0) := by rw [← hWA]; exact Boxed.new _ _ _
    generalize hWC : WA.alloc (.map #[] 0) = WC at e
    have sC : WC.heap.size = w1.heap.size + 1 + 1 := by rw [← hWC, World.size_alloc, sA]
    have bC : Below w1.heap.size w1 WC := by rw [← hWC]; exact bA.alloc (by omega) _
    have vC : Boxed WC w1.heap.size 71 (.slice none 0 0) := by rw [← hWC]; exact vA.alloc _
    have mC : WC.ownsMap Tryd.prog 3 (unitElem (H := Unit)) (w1.heap.size + 1) 0 (.map []) := by rw [← hWC, ← sA]; exact World.ownsMap_made _ _ _ _
    generalize hWD : WC.alloc (.cells #[.map (some (w1.heap.size + 1))] 124) = WD at e
    have sD : WD.heap.size = w1.heap.size + 1 + 1 + 1 := by rw [← hWD, World.size_alloc, sC]
    have bD : Below w1.heap.size w1 WD := by rw [← hWD]; exact bC.alloc (by omega) _
    have vD : Boxed WD w1.heap.size 71 (.slice none 0 0) := by rw [← hWD]; exact vC.alloc _
    have uD : Boxed WD (w1.heap.size + 1 + 1) 124 (.map (some (w1.heap.size + 1))) := by rw [← hWD, ← sC]; exact Boxed.new _ _ _
    have mD : WD.ownsMap Tryd.prog 3 (unitElem (H := Unit)) (w1.heap.size + 1) 0 (.map []) := by rw [← hWD]; exact mC.alloc _
    refine ⟨by rw [e]; exact bD.alloc (by omega) _, ?_, by rw [e]; exact vD.alloc _, by rw [e]; exact uD.alloc _, by rw [e]; exact mD.alloc _⟩
    have h := World.alloc_heap_new WD (.cells #[.int .i64 k, .int .u64 (word s 0), .int .u64 (word s 1), .int .u64 (word s 2), .int .u64 (word s 3), .int .i64 n, .slice a len cap] 28)
    rw [← e, sD] at h
    exact core7_in h rfl
  obtain ⟨hb10, h9, hvS, hvM, hmap0⟩ := hfacts
  have hbw1 : Below w.heap.size w w1 := H0.out.1.trans (Hb1.out.mono H0.out.1.size)
  have hb0 : Below w.heap.size w w0 := hbw1.trans (hb10.mono hbw1.size)
  have hheld := nodes_held Hat.out hb0 (Bx := w1.heap.size + 1 + 1 + 1) (by omega) h9
  have hkB : ∀ W : World, Below w1.heap.size w0 W → Var W (w.heap.size + 1) (.int .i64 6) 3 ∧ Var W (w.heap.size + 2) (.func (Fn.func 54) #[] #[]) 110 := fun W hW => by
    have hB : Below WB.heap.size WB W := Hb1.out.trans (((hb10.trans hW)).mono Hb1.out.size)
    have h3 := H0.out.2.1
    exact ⟨(hB.block _ (by omega)).trans H0.out.2.2.2.1, (hB.block _ (by omega)).trans H0.out.2.2.2.2⟩
  have HkB := Lib.hid hkB
  have Hs1 := Lib.hid (show w.heap.size + 3 ≤ w1.heap.size from by have := H0.out.2.1; have := Hb1.out.size; omega)
  have Hbw1 := Lib.hid hbw1
  have Hb10 := Lib.hid hb10
  clear h9 hw0 hcw hkB hbw1 hb10 hcB
  have hw3 : w1.heap.size + 1 + 1 < w0.heap.size := by omega
  refine wp_range_held (w := w0) rfl (enters_of Tryd.func68 (by kernel_rfl) rfl) hheld hb0.size (Below.refl _ _)
    (IntsI w w1 w0) (fun _ _ _ => False) (IntsI.own hw3) (fun _ _ _ _ _ h _ _ => h)
    (fun _ _ h => by obtain ⟨v, D, hF, _⟩ := h; exact hF.2.2.2.2.mono (by have := Hs1.out; omega)) (fun _ _ _ h => h.elim)
    ⟨.slice none 0 0, .map [], ⟨hvS, World.ownsRow_nil _ _ _ _, hvM, hmap0, Below.refl _ _⟩, Maps.isMap_empty, fun _ => rfl⟩ ?turn ?done ?stop
  case turn =>
    intro l m pre y W o K hI ho hlen hlt hK
    obtain ⟨⟨nd, ds⟩, hnd⟩ := y
    obtain ⟨k1, s1, n1, ls⟩ := nd
    have hnd2 := hnd
    rw [at_mk] at hnd
    obtain ⟨_, hn1f, a1, cap1, hds, _, _⟩ := hnd
    simp only at hds
    subst hds
    obtain ⟨v, D, hF, hD⟩ := hI
    have hacc : ∀ y : NV w, y.1.1 = Cr.mk k1 s1 n1 ls → accG (nds (pre ++ [y])) [] = if k1 = 6 then addI (accG (nds pre) []) n1 else accG (nds pre) [] := fun y hy => by
      rw [nds_append, show nds [y] = [Cr.mk k1 s1 n1 ls] from by rw [← hy]; rfl, accG_append]; rfl
    have hal : (accG (nds pre) []).length ≤ 100000 := by
      have h := accG_length (nds pre) []
      simp only [nds, List.length_map, List.length_nil] at h ⊢
      omega
    generalize accG (nds pre) [] = acc at *
    have hsW : w1.heap.size + 4 < W.heap.size := by omega
    have Hacc := Lib.hid hacc
    have HF := Lib.hid hF
    have HD := Lib.hid hD
    have Hlt := Lib.hid hlt
    have Hn1f := Lib.hid hn1f
    clear hnd2 hheld hvS hvM hmap0 hF hD hlt hacc hn1f
    gi_wp2
    refine hK _ _ ((KeepsOthers.alloc _ _).from _) fun W3 hto hs3 => ?_
    have hrowlt : ∀ g, v.ownBlock = some g → g < W.heap.size := fun g hg => by
      rcases HF.out.2.1.2 with ⟨e, _⟩ | ⟨g', cap', cur, e, _, hgb, _⟩
      · rw [e] at hg; cases hg
      · rw [e] at hg; simp [Value.ownBlock] at hg; subst hg; exact (Array.getElem?_eq_some_iff.1 hgb).1
    have hS3all := hto _ (IntsF.ownF (by omega) (by omega) (by omega) (by omega) (by omega)) ((HF.out.alloc (by omega) o).alloc (by simp; omega) (.cells #[.int .i64 k1, .int .u64 (word s1 0), .int .u64 (word s1 1), .int .u64 (word s1 2), .int .u64 (word s1 3), .int .i64 n1, .slice a1 ls.length cap1] 28))
    have ho3 := hto _ (ownFrom_block _ _ _ ho) ((Below.heap_alloc (W.alloc o) (.cells #[.int .i64 k1, .int .u64 (word s1 0), .int .u64 (word s1 1), .int .u64 (word s1 2), .int .u64 (word s1 3), .int .i64 n1, .slice a1 ls.length cap1] 28) _ (by simp)).trans (World.alloc_heap_new W o))
    have hX3 := hto _ (ownFrom_block _ _ _ rfl) (World.alloc_heap_new (W.alloc o) (.cells #[.int .i64 k1, .int .u64 (word s1 0), .int .u64 (word s1 1), .int .u64 (word s1 2), .int .u64 (word s1 3), .int .i64 n1, .slice a1 ls.length cap1] 28))
    rw [World.size_alloc] at hX3
    have hs3' : W3.heap.size = W.heap.size + 2 := by rw [hs3]; simp
    have hcX := cells_at hX3
    have hkf := HkB.out W3 hS3all.2.2.2.2
    have hck := hkf.1.cell.1
    have HS3 := Lib.hid hS3all
    have Ho3 := Lib.hid ho3
    have HX3 := Lib.hid hX3
    have Hkf := Lib.hid hkf
    clear hto hs3 hK hS3all ho3 hX3 hkf
    by_cases hk1 : k1 = 6
    rotate_left 1
    · have e1 : (k1 != 6) = true := by simp [bne, hk1]
      have e2 : (k1 == 6) = false := by simp [hk1]
      have Hk1 := Lib.hid hk1
      clear hk1 hmm
      gi_wp2
      refine ⟨⟨KeepsFrom.refl _ _, Ho3.out⟩, v, D, ?_⟩
      rw [Hacc.out _ rfl, if_neg Hk1.out]
      exact ⟨HS3.out, HD.out⟩
    · subst hk1
      have hhas := HD.out.2 n1
      by_cases hin : n1 ∈ acc
      · rw [decide_eq_true hin] at hhas
        gi_wp2
        have h7X : ∀ w', (∃ L : Later W3, w' = L.val) → Core7 w' (W.heap.size + 1) 0 [.int .i64 6, .int .u64 (word s1 0), .int .u64 (word s1 1), .int .u64 (word s1 2), .int .u64 (word s1 3), .int .i64 n1, .slice a1 ls.length cap1] := fun w' hw' => by
          obtain ⟨L, rfl⟩ := hw'
          exact core7_in ((L.ok.block _ (lt_of_block HX3.out)).trans HX3.out) rfl
        have cl8 : ∀ L : Later W3, L.val.cell? ⟨w1.heap.size + 1 + 1, 0, none⟩ = some (.map (some (w1.heap.size + 1))) := fun L => (L.cell ⟨w1.heap.size + 1 + 1, 0, none⟩ HS3.out.2.2.1.lt).trans HS3.out.2.2.1.cell
        have cl5 : ∀ L : Later W3, L.val.cell? ⟨w.heap.size + 2, 0, none⟩ = some (.func (Fn.func 54) #[] #[]) := fun L => (L.cell ⟨w.heap.size + 2, 0, none⟩ Hkf.out.2.lt).trans Hkf.out.2.cell.1
        have hne := Later.nonempty W3
        clear hcX hck
        refine' wpIn_cut_eager (W0 := W3) (.plain 0 (.plain 1 (.plain 2 (.fork 3 (.fork 4 (.plain 5 (.plain 6 (.plain 7 (.sole 8 (.sole 9 (.plain 10 .done)))))) 8 (.sole 4 (.plain 5 (.plain 6 (.plain 7 (.sole 9 (.plain 10 .done))))))) 8 (.sole 3 (.sole 4 (.plain 5 (.plain 6 (.plain 7 (.sole 9 (.plain 10 .done))))))))))) (Below.refl _ _) (by kernel_rfl) (by kernel_rfl) (by rfl) (fun gz => { tmps := #[.agg #[.int .i64 k, .int .u64 (word s 0), .int .u64 (word s 1), .int .u64 (word s 2), .int .u64 (word s 3), .int .i64 n, .slice a len cap], .int .i64 6, .func (Fn.func 54) #[] #[], .pointer (some ⟨w.heap.size, 0, none⟩), .pointer (some ⟨w.heap.size + 1, 0, none⟩), .pointer (some ⟨w.heap.size + 1 + 1, 0, none⟩), .slice none 0 0, .pointer (some ⟨w1.heap.size, 0, none⟩), .pointer (some ⟨w1.heap.size + 1 + 1, 0, none⟩), .pointer (some ⟨W.heap.size + 1, 0, none⟩), .pointer (some ⟨gz, 0, none⟩), .bool true, .agg #[.int .i64 k, .int .u64 (word s 0), .int .u64 (word s 1), .int .u64 (word s 2), .int .u64 (word s 3), .int .i64 n, .slice a len cap], .bool true, .bool false, .map (some (w1.heap.size + 1)), .agg #[.int .i64 k, .int .u64 (word s 0), .int .u64 (word s 1), .int .u64 (word s 2), .int .u64 (word s 3), .int .i64 n, .slice a len cap], .func (Fn.func 68) #[] #[.pointer (some ⟨w1.heap.size + 1 + 1 + 1, 0, none⟩)], .agg #[.int .i64 6, .int .u64 (word s1 0), .int .u64 (word s1 1), .int .u64 (word s1 2), .int .u64 (word s1 3), .int .i64 n1, .slice a1 ls.length cap1], .pointer (some ⟨W.heap.size + 1, 0, none⟩), .int .i64 6, .int .i64 6, .bool false, .tuple #[.agg #[], .bool true], .map (some (w1.heap.size + 1)), .func (Fn.func 54) #[] #[], .agg #[.int .i64 6, .int .u64 (word s1 0), .int .u64 (word s1 1), .int .u64 (word s1 2), .int .u64 (word s1 3), .int .i64 n1, .slice a1 ls.length cap1], .int .i64 n1, .tuple #[.agg #[], .bool true], .agg #[], .bool true, undef, undef, undef, undef, undef, undef, undef, undef, undef, undef, undef, undef, undef, undef], defers := [] }) (fun wx => Below W3.heap.size W3 wx) ?_ ?_
        · obtain ⟨wd, hwd⟩ : ∃ wd, wd = W3.drew := ⟨_, rfl⟩
          have hcur : Below W3.heap.size W3 wd := by rw [hwd]; exact drew_below W3
          rw [← hwd]
          clear hwd
          repeat (first
              | (refine' eager_skip ?_ ?_ ?_
                 rotate_left 1
                 · simp only [List.getElem?_toArray, List.getElem?_cons_zero, List.getElem?_cons_succ]; exact rfl
                 · exact rfl
                 simp only [Act.put, List.setIfInBounds_toArray, List.set_cons_zero, List.set_cons_succ])
              | (refine' eager_want ?_ ?_ (fun K hK => ?_)
                 rotate_left 1
                 · simp only [List.getElem?_toArray, List.getElem?_cons_zero, List.getElem?_cons_succ]; exact rfl
                 · exact rfl
                 first
                 | (refine quiet_load_core _ rfl (W.heap.size + 1) 0 _ rfl h7X ?_; refine hK _ ?_; clear hK K; try simp only [Act.put, List.setIfInBounds_toArray, List.set_cons_zero, List.set_cons_succ])
                 | (go_big_quiet_op; refine hK _ ?_; clear hK K)))
          refine eager_fork ?_ ?_
          · refine' step_call ?_ ?_ (fun K hK => ?_)
            rotate_left 1
            · simp only [List.getElem?_toArray, List.getElem?_cons_zero, List.getElem?_cons_succ]; exact rfl
            · exact rfl
            go_simp
            refine (field_walk 6 s1 n1 a1 ls.length cap1 _).mono ?_
            rintro e wc ⟨rfl, hb⟩
            refine hK _ _ hb ?_
            replace hcur := hcur.trans (hb.mono hcur.size)
            clear hb hK K
            try simp only [Act.put, List.setIfInBounds_toArray, List.set_cons_zero, List.set_cons_succ]
            refine eager_fork ?_ ?_
            · refine' step_call ?_ ?_ (fun K hK => ?_)
              rotate_left 1
              · simp only [List.getElem?_toArray, List.getElem?_cons_zero, List.getElem?_cons_succ]; exact rfl
              · exact rfl
              refine wp_lookup_unit (ht := Tryd.underlying124) _ _ 124 rfl (w1.heap.size + 1) acc.length D rfl (map_later HS3.out.2.2.2.1 hcur) n1 Hn1f.out rfl ?_
              refine hK _ _ (Below.refl _ _) ?_
              clear hK K
              try simp only [Act.put, List.setIfInBounds_toArray, List.set_cons_zero, List.set_cons_succ]
              repeat (first
                  | (refine' eager_skip ?_ ?_ ?_
                     rotate_left 1
                     · simp only [List.getElem?_toArray, List.getElem?_cons_zero, List.getElem?_cons_succ]; exact rfl
                     · exact rfl
                     simp only [Act.put, List.setIfInBounds_toArray, List.set_cons_zero, List.set_cons_succ])
                  | (refine' eager_want ?_ ?_ (fun K hK => ?_)
                     rotate_left 1
                     · simp only [List.getElem?_toArray, List.getElem?_cons_zero, List.getElem?_cons_succ]; exact rfl
                     · exact rfl
                     first
                     | (refine quiet_load_core _ rfl (W.heap.size + 1) 0 _ rfl h7X ?_; refine hK _ ?_; clear hK K; try simp only [Act.put, List.setIfInBounds_toArray, List.set_cons_zero, List.set_cons_succ])
                     | (go_big_quiet_op; refine hK _ ?_; clear hK K)))
              refine' eager_call ?_ ?_ (fun K hK => ?_)
              rotate_left 1
              · simp only [List.getElem?_toArray, List.getElem?_cons_zero, List.getElem?_cons_succ]; exact rfl
              · exact rfl
              unfold Oper.wp execOp
              go_simp
              refine hK _ _ (alloc_below _ _) ?_
              clear hK K
              try simp only [Act.put, List.setIfInBounds_toArray, List.set_cons_zero, List.set_cons_succ]
              obtain ⟨wz, hwz⟩ : ∃ wz, wz = wc.alloc (.cells #[] 125) := ⟨_, rfl⟩
              obtain ⟨gz, hgz⟩ : ∃ gz, gz = wc.heap.size := ⟨_, rfl⟩
              rw [← hwz, ← hgz]
              replace hcur : Below W3.heap.size W3 wz := by rw [hwz]; exact hcur.alloc hcur.size _
              clear hwz hgz
              refine' eager_call ?_ ?_ (fun K hK => ?_)
              rotate_left 1
              · simp only [List.getElem?_toArray, List.getElem?_cons_zero, List.getElem?_cons_succ]; exact rfl
              · exact rfl
              unfold Oper.wp execOp
              go_simp
              refine hK _ _ (Below.refl _ _) ?_
              clear hK K
              try simp only [Act.put, List.setIfInBounds_toArray, List.set_cons_zero, List.set_cons_succ]
              repeat (first
                  | (refine' eager_skip ?_ ?_ ?_
                     rotate_left 1
                     · simp only [List.getElem?_toArray, List.getElem?_cons_zero, List.getElem?_cons_succ]; exact rfl
                     · exact rfl
                     simp only [Act.put, List.setIfInBounds_toArray, List.set_cons_zero, List.set_cons_succ])
                  | (refine' eager_want ?_ ?_ (fun K hK => ?_)
                     rotate_left 1
                     · simp only [List.getElem?_toArray, List.getElem?_cons_zero, List.getElem?_cons_succ]; exact rfl
                     · exact rfl
                     first
                     | (refine quiet_load_core _ rfl (W.heap.size + 1) 0 _ rfl h7X ?_; refine hK _ ?_; clear hK K; try simp only [Act.put, List.setIfInBounds_toArray, List.set_cons_zero, List.set_cons_succ])
                     | (go_big_quiet_op; refine hK _ ?_; clear hK K)))
              refine eager_done ?_
              exact ⟨rfl, gz, rfl, hcur⟩
            · refine' step_call ?_ ?_ (fun K hK => ?_)
              rotate_left 1
              · simp only [List.getElem?_toArray, List.getElem?_cons_zero, List.getElem?_cons_succ]; exact rfl
              · exact rfl
              unfold Oper.wp execOp
              go_simp
              refine hK _ _ (alloc_below _ _) ?_
              clear hK K
              try simp only [Act.put, List.setIfInBounds_toArray, List.set_cons_zero, List.set_cons_succ]
              obtain ⟨wz, hwz⟩ : ∃ wz, wz = wc.alloc (.cells #[] 125) := ⟨_, rfl⟩
              obtain ⟨gz, hgz⟩ : ∃ gz, gz = wc.heap.size := ⟨_, rfl⟩
              rw [← hwz, ← hgz]
              replace hcur : Below W3.heap.size W3 wz := by rw [hwz]; exact hcur.alloc hcur.size _
              clear hwz hgz
              refine' eager_call ?_ ?_ (fun K hK => ?_)
              rotate_left 1
              · simp only [List.getElem?_toArray, List.getElem?_cons_zero, List.getElem?_cons_succ]; exact rfl
              · exact rfl
              refine wp_lookup_unit (ht := Tryd.underlying124) _ _ 124 rfl (w1.heap.size + 1) acc.length D rfl (map_later HS3.out.2.2.2.1 hcur) n1 Hn1f.out rfl ?_
              refine hK _ _ (Below.refl _ _) ?_
              clear hK K
              try simp only [Act.put, List.setIfInBounds_toArray, List.set_cons_zero, List.set_cons_succ]
              repeat (first
                  | (refine' eager_skip ?_ ?_ ?_
                     rotate_left 1
                     · simp only [List.getElem?_toArray, List.getElem?_cons_zero, List.getElem?_cons_succ]; exact rfl
                     · exact rfl
                     simp only [Act.put, List.setIfInBounds_toArray, List.set_cons_zero, List.set_cons_succ])
                  | (refine' eager_want ?_ ?_ (fun K hK => ?_)
                     rotate_left 1
                     · simp only [List.getElem?_toArray, List.getElem?_cons_zero, List.getElem?_cons_succ]; exact rfl
                     · exact rfl
                     first
                     | (refine quiet_load_core _ rfl (W.heap.size + 1) 0 _ rfl h7X ?_; refine hK _ ?_; clear hK K; try simp only [Act.put, List.setIfInBounds_toArray, List.set_cons_zero, List.set_cons_succ])
                     | (go_big_quiet_op; refine hK _ ?_; clear hK K)))
              refine' eager_call ?_ ?_ (fun K hK => ?_)
              rotate_left 1
              · simp only [List.getElem?_toArray, List.getElem?_cons_zero, List.getElem?_cons_succ]; exact rfl
              · exact rfl
              unfold Oper.wp execOp
              go_simp
              refine hK _ _ (Below.refl _ _) ?_
              clear hK K
              try simp only [Act.put, List.setIfInBounds_toArray, List.set_cons_zero, List.set_cons_succ]
              repeat (first
                  | (refine' eager_skip ?_ ?_ ?_
                     rotate_left 1
                     · simp only [List.getElem?_toArray, List.getElem?_cons_zero, List.getElem?_cons_succ]; exact rfl
                     · exact rfl
                     simp only [Act.put, List.setIfInBounds_toArray, List.set_cons_zero, List.set_cons_succ])
                  | (refine' eager_want ?_ ?_ (fun K hK => ?_)
                     rotate_left 1
                     · simp only [List.getElem?_toArray, List.getElem?_cons_zero, List.getElem?_cons_succ]; exact rfl
                     · exact rfl
                     first
                     | (refine quiet_load_core _ rfl (W.heap.size + 1) 0 _ rfl h7X ?_; refine hK _ ?_; clear hK K; try simp only [Act.put, List.setIfInBounds_toArray, List.set_cons_zero, List.set_cons_succ])
                     | (go_big_quiet_op; refine hK _ ?_; clear hK K)))
              refine eager_done ?_
              exact ⟨rfl, gz, rfl, hcur⟩
          · refine' step_call ?_ ?_ (fun K hK => ?_)
            rotate_left 1
            · simp only [List.getElem?_toArray, List.getElem?_cons_zero, List.getElem?_cons_succ]; exact rfl
            · exact rfl
            unfold Oper.wp execOp
            go_simp
            refine hK _ _ (alloc_below _ _) ?_
            clear hK K
            try simp only [Act.put, List.setIfInBounds_toArray, List.set_cons_zero, List.set_cons_succ]
            obtain ⟨wz, hwz⟩ : ∃ wz, wz = wd.alloc (.cells #[] 125) := ⟨_, rfl⟩
            obtain ⟨gz, hgz⟩ : ∃ gz, gz = wd.heap.size := ⟨_, rfl⟩
            rw [← hwz, ← hgz]
            replace hcur : Below W3.heap.size W3 wz := by rw [hwz]; exact hcur.alloc hcur.size _
            clear hwz hgz
            refine' eager_call ?_ ?_ (fun K hK => ?_)
            rotate_left 1
            · simp only [List.getElem?_toArray, List.getElem?_cons_zero, List.getElem?_cons_succ]; exact rfl
            · exact rfl
            go_simp
            refine (field_walk 6 s1 n1 a1 ls.length cap1 _).mono ?_
            rintro e wc ⟨rfl, hb⟩
            refine hK _ _ hb ?_
            replace hcur := hcur.trans (hb.mono hcur.size)
            clear hb hK K
            try simp only [Act.put, List.setIfInBounds_toArray, List.set_cons_zero, List.set_cons_succ]
            refine' eager_call ?_ ?_ (fun K hK => ?_)
            rotate_left 1
            · simp only [List.getElem?_toArray, List.getElem?_cons_zero, List.getElem?_cons_succ]; exact rfl
            · exact rfl
            refine wp_lookup_unit (ht := Tryd.underlying124) _ _ 124 rfl (w1.heap.size + 1) acc.length D rfl (map_later HS3.out.2.2.2.1 hcur) n1 Hn1f.out rfl ?_
            refine hK _ _ (Below.refl _ _) ?_
            clear hK K
            try simp only [Act.put, List.setIfInBounds_toArray, List.set_cons_zero, List.set_cons_succ]
            repeat (first
                | (refine' eager_skip ?_ ?_ ?_
                   rotate_left 1
                   · simp only [List.getElem?_toArray, List.getElem?_cons_zero, List.getElem?_cons_succ]; exact rfl
                   · exact rfl
                   simp only [Act.put, List.setIfInBounds_toArray, List.set_cons_zero, List.set_cons_succ])
                | (refine' eager_want ?_ ?_ (fun K hK => ?_)
                   rotate_left 1
                   · simp only [List.getElem?_toArray, List.getElem?_cons_zero, List.getElem?_cons_succ]; exact rfl
                   · exact rfl
                   first
                   | (refine quiet_load_core _ rfl (W.heap.size + 1) 0 _ rfl h7X ?_; refine hK _ ?_; clear hK K; try simp only [Act.put, List.setIfInBounds_toArray, List.set_cons_zero, List.set_cons_succ])
                   | (go_big_quiet_op; refine hK _ ?_; clear hK K)))
            refine' eager_call ?_ ?_ (fun K hK => ?_)
            rotate_left 1
            · simp only [List.getElem?_toArray, List.getElem?_cons_zero, List.getElem?_cons_succ]; exact rfl
            · exact rfl
            unfold Oper.wp execOp
            go_simp
            refine hK _ _ (Below.refl _ _) ?_
            clear hK K
            try simp only [Act.put, List.setIfInBounds_toArray, List.set_cons_zero, List.set_cons_succ]
            repeat (first
                | (refine' eager_skip ?_ ?_ ?_
                   rotate_left 1
                   · simp only [List.getElem?_toArray, List.getElem?_cons_zero, List.getElem?_cons_succ]; exact rfl
                   · exact rfl
                   simp only [Act.put, List.setIfInBounds_toArray, List.set_cons_zero, List.set_cons_succ])
                | (refine' eager_want ?_ ?_ (fun K hK => ?_)
                   rotate_left 1
                   · simp only [List.getElem?_toArray, List.getElem?_cons_zero, List.getElem?_cons_succ]; exact rfl
                   · exact rfl
                   first
                   | (refine quiet_load_core _ rfl (W.heap.size + 1) 0 _ rfl h7X ?_; refine hK _ ?_; clear hK K; try simp only [Act.put, List.setIfInBounds_toArray, List.set_cons_zero, List.set_cons_succ])
                   | (go_big_quiet_op; refine hK _ ?_; clear hK K)))
            refine eager_done ?_
            exact ⟨rfl, gz, rfl, hcur⟩
        · intro gz wz HB
          have HB := Lib.hid HB
          clear h7X cl8 cl5
          gi_wp2
          refine ⟨⟨keepsFrom_below HB.out, (HB.out.block _ (block_lt Ho3.out)).trans Ho3.out⟩, v, D, ?_⟩
          rw [Hacc.out _ rfl, if_pos trivial]
          have hsame := HD.out.same hin
          have hacc1 : addI acc n1 = acc := by unfold addI; rw [if_pos hin]
          rw [hacc1] at hsame ⊢
          exact ⟨HS3.out.kept (below_grown HB.out) (by simp) (by simp) (by simp) (Decidable.em _) (fun k e => by cases e) (by omega), hsame⟩
      · rw [decide_eq_false hin] at hhas
        gi_wp2
        have h7X : ∀ w', (∃ L : Later W3, w' = L.val) → Core7 w' (W.heap.size + 1) 0 [.int .i64 6, .int .u64 (word s1 0), .int .u64 (word s1 1), .int .u64 (word s1 2), .int .u64 (word s1 3), .int .i64 n1, .slice a1 ls.length cap1] := fun w' hw' => by
          obtain ⟨L, rfl⟩ := hw'
          exact core7_in ((L.ok.block _ (lt_of_block HX3.out)).trans HX3.out) rfl
        have cl8 : ∀ L : Later W3, L.val.cell? ⟨w1.heap.size + 1 + 1, 0, none⟩ = some (.map (some (w1.heap.size + 1))) := fun L => (L.cell ⟨w1.heap.size + 1 + 1, 0, none⟩ HS3.out.2.2.1.lt).trans HS3.out.2.2.1.cell
        have cl5 : ∀ L : Later W3, L.val.cell? ⟨w.heap.size + 2, 0, none⟩ = some (.func (Fn.func 54) #[] #[]) := fun L => (L.cell ⟨w.heap.size + 2, 0, none⟩ Hkf.out.2.lt).trans Hkf.out.2.cell.1
        have hne := Later.nonempty W3
        clear hcX hck
        refine' wpIn_cut_eager (W0 := W3) (.plain 0 (.plain 1 (.plain 2 (.fork 3 (.fork 4 (.plain 5 (.plain 6 (.plain 7 (.sole 8 (.sole 9 (.plain 10 .done)))))) 8 (.sole 4 (.plain 5 (.plain 6 (.plain 7 (.sole 9 (.plain 10 .done))))))) 8 (.sole 3 (.sole 4 (.plain 5 (.plain 6 (.plain 7 (.sole 9 (.plain 10 .done))))))))))) (Below.refl _ _) (by kernel_rfl) (by kernel_rfl) (by rfl) (fun gz => { tmps := #[.agg #[.int .i64 k, .int .u64 (word s 0), .int .u64 (word s 1), .int .u64 (word s 2), .int .u64 (word s 3), .int .i64 n, .slice a len cap], .int .i64 6, .func (Fn.func 54) #[] #[], .pointer (some ⟨w.heap.size, 0, none⟩), .pointer (some ⟨w.heap.size + 1, 0, none⟩), .pointer (some ⟨w.heap.size + 1 + 1, 0, none⟩), .slice none 0 0, .pointer (some ⟨w1.heap.size, 0, none⟩), .pointer (some ⟨w1.heap.size + 1 + 1, 0, none⟩), .pointer (some ⟨W.heap.size + 1, 0, none⟩), .pointer (some ⟨gz, 0, none⟩), .bool false, .agg #[.int .i64 k, .int .u64 (word s 0), .int .u64 (word s 1), .int .u64 (word s 2), .int .u64 (word s 3), .int .i64 n, .slice a len cap], .bool true, .bool false, .map (some (w1.heap.size + 1)), .agg #[.int .i64 k, .int .u64 (word s 0), .int .u64 (word s 1), .int .u64 (word s 2), .int .u64 (word s 3), .int .i64 n, .slice a len cap], .func (Fn.func 68) #[] #[.pointer (some ⟨w1.heap.size + 1 + 1 + 1, 0, none⟩)], .agg #[.int .i64 6, .int .u64 (word s1 0), .int .u64 (word s1 1), .int .u64 (word s1 2), .int .u64 (word s1 3), .int .i64 n1, .slice a1 ls.length cap1], .pointer (some ⟨W.heap.size + 1, 0, none⟩), .int .i64 6, .int .i64 6, .bool false, .tuple #[.agg #[], .bool false], .map (some (w1.heap.size + 1)), .func (Fn.func 54) #[] #[], .agg #[.int .i64 6, .int .u64 (word s1 0), .int .u64 (word s1 1), .int .u64 (word s1 2), .int .u64 (word s1 3), .int .i64 n1, .slice a1 ls.length cap1], .int .i64 n1, .tuple #[.agg #[], .bool false], .agg #[], .bool false, undef, undef, undef, undef, undef, undef, undef, undef, undef, undef, undef, undef, undef, undef], defers := [] }) (fun wx => Below W3.heap.size W3 wx) ?_ ?_
        · obtain ⟨wd, hwd⟩ : ∃ wd, wd = W3.drew := ⟨_, rfl⟩
          have hcur : Below W3.heap.size W3 wd := by rw [hwd]; exact drew_below W3
          rw [← hwd]
          clear hwd
          repeat (first
              | (refine' eager_skip ?_ ?_ ?_
                 rotate_left 1
                 · simp only [List.getElem?_toArray, List.getElem?_cons_zero, List.getElem?_cons_succ]; exact rfl
                 · exact rfl
                 simp only [Act.put, List.setIfInBounds_toArray, List.set_cons_zero, List.set_cons_succ])
              | (refine' eager_want ?_ ?_ (fun K hK => ?_)
                 rotate_left 1
                 · simp only [List.getElem?_toArray, List.getElem?_cons_zero, List.getElem?_cons_succ]; exact rfl
                 · exact rfl
                 first
                 | (refine quiet_load_core _ rfl (W.heap.size + 1) 0 _ rfl h7X ?_; refine hK _ ?_; clear hK K; try simp only [Act.put, List.setIfInBounds_toArray, List.set_cons_zero, List.set_cons_succ])
                 | (go_big_quiet_op; refine hK _ ?_; clear hK K)))
          refine eager_fork ?_ ?_
          · refine' step_call ?_ ?_ (fun K hK => ?_)
            rotate_left 1
            · simp only [List.getElem?_toArray, List.getElem?_cons_zero, List.getElem?_cons_succ]; exact rfl
            · exact rfl
            go_simp
            refine (field_walk 6 s1 n1 a1 ls.length cap1 _).mono ?_
            rintro e wc ⟨rfl, hb⟩
            refine hK _ _ hb ?_
            replace hcur := hcur.trans (hb.mono hcur.size)
            clear hb hK K
            try simp only [Act.put, List.setIfInBounds_toArray, List.set_cons_zero, List.set_cons_succ]
            refine eager_fork ?_ ?_
            · refine' step_call ?_ ?_ (fun K hK => ?_)
              rotate_left 1
              · simp only [List.getElem?_toArray, List.getElem?_cons_zero, List.getElem?_cons_succ]; exact rfl
              · exact rfl
              refine wp_lookup_unit (ht := Tryd.underlying124) _ _ 124 rfl (w1.heap.size + 1) acc.length D rfl (map_later HS3.out.2.2.2.1 hcur) n1 Hn1f.out rfl ?_
              refine hK _ _ (Below.refl _ _) ?_
              clear hK K
              try simp only [Act.put, List.setIfInBounds_toArray, List.set_cons_zero, List.set_cons_succ]
              repeat (first
                  | (refine' eager_skip ?_ ?_ ?_
                     rotate_left 1
                     · simp only [List.getElem?_toArray, List.getElem?_cons_zero, List.getElem?_cons_succ]; exact rfl
                     · exact rfl
                     simp only [Act.put, List.setIfInBounds_toArray, List.set_cons_zero, List.set_cons_succ])
                  | (refine' eager_want ?_ ?_ (fun K hK => ?_)
                     rotate_left 1
                     · simp only [List.getElem?_toArray, List.getElem?_cons_zero, List.getElem?_cons_succ]; exact rfl
                     · exact rfl
                     first
                     | (refine quiet_load_core _ rfl (W.heap.size + 1) 0 _ rfl h7X ?_; refine hK _ ?_; clear hK K; try simp only [Act.put, List.setIfInBounds_toArray, List.set_cons_zero, List.set_cons_succ])
                     | (go_big_quiet_op; refine hK _ ?_; clear hK K)))
              refine' eager_call ?_ ?_ (fun K hK => ?_)
              rotate_left 1
              · simp only [List.getElem?_toArray, List.getElem?_cons_zero, List.getElem?_cons_succ]; exact rfl
              · exact rfl
              unfold Oper.wp execOp
              go_simp
              refine hK _ _ (alloc_below _ _) ?_
              clear hK K
              try simp only [Act.put, List.setIfInBounds_toArray, List.set_cons_zero, List.set_cons_succ]
              obtain ⟨wz, hwz⟩ : ∃ wz, wz = wc.alloc (.cells #[] 125) := ⟨_, rfl⟩
              obtain ⟨gz, hgz⟩ : ∃ gz, gz = wc.heap.size := ⟨_, rfl⟩
              rw [← hwz, ← hgz]
              replace hcur : Below W3.heap.size W3 wz := by rw [hwz]; exact hcur.alloc hcur.size _
              clear hwz hgz
              refine' eager_call ?_ ?_ (fun K hK => ?_)
              rotate_left 1
              · simp only [List.getElem?_toArray, List.getElem?_cons_zero, List.getElem?_cons_succ]; exact rfl
              · exact rfl
              unfold Oper.wp execOp
              go_simp
              refine hK _ _ (Below.refl _ _) ?_
              clear hK K
              try simp only [Act.put, List.setIfInBounds_toArray, List.set_cons_zero, List.set_cons_succ]
              repeat (first
                  | (refine' eager_skip ?_ ?_ ?_
                     rotate_left 1
                     · simp only [List.getElem?_toArray, List.getElem?_cons_zero, List.getElem?_cons_succ]; exact rfl
                     · exact rfl
                     simp only [Act.put, List.setIfInBounds_toArray, List.set_cons_zero, List.set_cons_succ])
                  | (refine' eager_want ?_ ?_ (fun K hK => ?_)
                     rotate_left 1
                     · simp only [List.getElem?_toArray, List.getElem?_cons_zero, List.getElem?_cons_succ]; exact rfl
                     · exact rfl
                     first
                     | (refine quiet_load_core _ rfl (W.heap.size + 1) 0 _ rfl h7X ?_; refine hK _ ?_; clear hK K; try simp only [Act.put, List.setIfInBounds_toArray, List.set_cons_zero, List.set_cons_succ])
                     | (go_big_quiet_op; refine hK _ ?_; clear hK K)))
              refine eager_done ?_
              exact ⟨rfl, gz, rfl, hcur⟩
            · refine' step_call ?_ ?_ (fun K hK => ?_)
              rotate_left 1
              · simp only [List.getElem?_toArray, List.getElem?_cons_zero, List.getElem?_cons_succ]; exact rfl
              · exact rfl
              unfold Oper.wp execOp
              go_simp
              refine hK _ _ (alloc_below _ _) ?_
              clear hK K
              try simp only [Act.put, List.setIfInBounds_toArray, List.set_cons_zero, List.set_cons_succ]
              obtain ⟨wz, hwz⟩ : ∃ wz, wz = wc.alloc (.cells #[] 125) := ⟨_, rfl⟩
              obtain ⟨gz, hgz⟩ : ∃ gz, gz = wc.heap.size := ⟨_, rfl⟩
              rw [← hwz, ← hgz]
              replace hcur : Below W3.heap.size W3 wz := by rw [hwz]; exact hcur.alloc hcur.size _
              clear hwz hgz
              refine' eager_call ?_ ?_ (fun K hK => ?_)
              rotate_left 1
              · simp only [List.getElem?_toArray, List.getElem?_cons_zero, List.getElem?_cons_succ]; exact rfl
              · exact rfl
              refine wp_lookup_unit (ht := Tryd.underlying124) _ _ 124 rfl (w1.heap.size + 1) acc.length D rfl (map_later HS3.out.2.2.2.1 hcur) n1 Hn1f.out rfl ?_
              refine hK _ _ (Below.refl _ _) ?_
              clear hK K
              try simp only [Act.put, List.setIfInBounds_toArray, List.set_cons_zero, List.set_cons_succ]
              repeat (first
                  | (refine' eager_skip ?_ ?_ ?_
                     rotate_left 1
                     · simp only [List.getElem?_toArray, List.getElem?_cons_zero, List.getElem?_cons_succ]; exact rfl
                     · exact rfl
                     simp only [Act.put, List.setIfInBounds_toArray, List.set_cons_zero, List.set_cons_succ])
                  | (refine' eager_want ?_ ?_ (fun K hK => ?_)
                     rotate_left 1
                     · simp only [List.getElem?_toArray, List.getElem?_cons_zero, List.getElem?_cons_succ]; exact rfl
                     · exact rfl
                     first
                     | (refine quiet_load_core _ rfl (W.heap.size + 1) 0 _ rfl h7X ?_; refine hK _ ?_; clear hK K; try simp only [Act.put, List.setIfInBounds_toArray, List.set_cons_zero, List.set_cons_succ])
                     | (go_big_quiet_op; refine hK _ ?_; clear hK K)))
              refine' eager_call ?_ ?_ (fun K hK => ?_)
              rotate_left 1
              · simp only [List.getElem?_toArray, List.getElem?_cons_zero, List.getElem?_cons_succ]; exact rfl
              · exact rfl
              unfold Oper.wp execOp
              go_simp
              refine hK _ _ (Below.refl _ _) ?_
              clear hK K
              try simp only [Act.put, List.setIfInBounds_toArray, List.set_cons_zero, List.set_cons_succ]
              repeat (first
                  | (refine' eager_skip ?_ ?_ ?_
                     rotate_left 1
                     · simp only [List.getElem?_toArray, List.getElem?_cons_zero, List.getElem?_cons_succ]; exact rfl
                     · exact rfl
                     simp only [Act.put, List.setIfInBounds_toArray, List.set_cons_zero, List.set_cons_succ])
                  | (refine' eager_want ?_ ?_ (fun K hK => ?_)
                     rotate_left 1
                     · simp only [List.getElem?_toArray, List.getElem?_cons_zero, List.getElem?_cons_succ]; exact rfl
                     · exact rfl
                     first
                     | (refine quiet_load_core _ rfl (W.heap.size + 1) 0 _ rfl h7X ?_; refine hK _ ?_; clear hK K; try simp only [Act.put, List.setIfInBounds_toArray, List.set_cons_zero, List.set_cons_succ])
                     | (go_big_quiet_op; refine hK _ ?_; clear hK K)))
              refine eager_done ?_
              exact ⟨rfl, gz, rfl, hcur⟩
          · refine' step_call ?_ ?_ (fun K hK => ?_)
            rotate_left 1
            · simp only [List.getElem?_toArray, List.getElem?_cons_zero, List.getElem?_cons_succ]; exact rfl
            · exact rfl
            unfold Oper.wp execOp
            go_simp
            refine hK _ _ (alloc_below _ _) ?_
            clear hK K
            try simp only [Act.put, List.setIfInBounds_toArray, List.set_cons_zero, List.set_cons_succ]
            obtain ⟨wz, hwz⟩ : ∃ wz, wz = wd.alloc (.cells #[] 125) := ⟨_, rfl⟩
            obtain ⟨gz, hgz⟩ : ∃ gz, gz = wd.heap.size := ⟨_, rfl⟩
            rw [← hwz, ← hgz]
            replace hcur : Below W3.heap.size W3 wz := by rw [hwz]; exact hcur.alloc hcur.size _
            clear hwz hgz
            refine' eager_call ?_ ?_ (fun K hK => ?_)
            rotate_left 1
            · simp only [List.getElem?_toArray, List.getElem?_cons_zero, List.getElem?_cons_succ]; exact rfl
            · exact rfl
            go_simp
            refine (field_walk 6 s1 n1 a1 ls.length cap1 _).mono ?_
            rintro e wc ⟨rfl, hb⟩
            refine hK _ _ hb ?_
            replace hcur := hcur.trans (hb.mono hcur.size)
            clear hb hK K
            try simp only [Act.put, List.setIfInBounds_toArray, List.set_cons_zero, List.set_cons_succ]
            refine' eager_call ?_ ?_ (fun K hK => ?_)
            rotate_left 1
            · simp only [List.getElem?_toArray, List.getElem?_cons_zero, List.getElem?_cons_succ]; exact rfl
            · exact rfl
            refine wp_lookup_unit (ht := Tryd.underlying124) _ _ 124 rfl (w1.heap.size + 1) acc.length D rfl (map_later HS3.out.2.2.2.1 hcur) n1 Hn1f.out rfl ?_
            refine hK _ _ (Below.refl _ _) ?_
            clear hK K
            try simp only [Act.put, List.setIfInBounds_toArray, List.set_cons_zero, List.set_cons_succ]
            repeat (first
                | (refine' eager_skip ?_ ?_ ?_
                   rotate_left 1
                   · simp only [List.getElem?_toArray, List.getElem?_cons_zero, List.getElem?_cons_succ]; exact rfl
                   · exact rfl
                   simp only [Act.put, List.setIfInBounds_toArray, List.set_cons_zero, List.set_cons_succ])
                | (refine' eager_want ?_ ?_ (fun K hK => ?_)
                   rotate_left 1
                   · simp only [List.getElem?_toArray, List.getElem?_cons_zero, List.getElem?_cons_succ]; exact rfl
                   · exact rfl
                   first
                   | (refine quiet_load_core _ rfl (W.heap.size + 1) 0 _ rfl h7X ?_; refine hK _ ?_; clear hK K; try simp only [Act.put, List.setIfInBounds_toArray, List.set_cons_zero, List.set_cons_succ])
                   | (go_big_quiet_op; refine hK _ ?_; clear hK K)))
            refine' eager_call ?_ ?_ (fun K hK => ?_)
            rotate_left 1
            · simp only [List.getElem?_toArray, List.getElem?_cons_zero, List.getElem?_cons_succ]; exact rfl
            · exact rfl
            unfold Oper.wp execOp
            go_simp
            refine hK _ _ (Below.refl _ _) ?_
            clear hK K
            try simp only [Act.put, List.setIfInBounds_toArray, List.set_cons_zero, List.set_cons_succ]
            repeat (first
                | (refine' eager_skip ?_ ?_ ?_
                   rotate_left 1
                   · simp only [List.getElem?_toArray, List.getElem?_cons_zero, List.getElem?_cons_succ]; exact rfl
                   · exact rfl
                   simp only [Act.put, List.setIfInBounds_toArray, List.set_cons_zero, List.set_cons_succ])
                | (refine' eager_want ?_ ?_ (fun K hK => ?_)
                   rotate_left 1
                   · simp only [List.getElem?_toArray, List.getElem?_cons_zero, List.getElem?_cons_succ]; exact rfl
                   · exact rfl
                   first
                   | (refine quiet_load_core _ rfl (W.heap.size + 1) 0 _ rfl h7X ?_; refine hK _ ?_; clear hK K; try simp only [Act.put, List.setIfInBounds_toArray, List.set_cons_zero, List.set_cons_succ])
                   | (go_big_quiet_op; refine hK _ ?_; clear hK K)))
            refine eager_done ?_
            exact ⟨rfl, gz, rfl, hcur⟩
        · intro gz wz HB
          have HB := Lib.hid HB
          clear h7X cl8 cl5
          gi_wp2
          have HF8 : Hid (∀ W' : World, Below W3.heap.size W3 W' → W'.cell? ⟨w1.heap.size + 1 + 1, 0, none⟩ = some (.map (some (w1.heap.size + 1))) ∧ W'.cell? ⟨w.heap.size + 1 + 1, 0, none⟩ = some (.func (Fn.func 54) #[] #[]) ∧ Core7 W' (W.heap.size + 1) 0 [.int .i64 6, .int .u64 (word s1 0), .int .u64 (word s1 1), .int .u64 (word s1 2), .int .u64 (word s1 3), .int .i64 n1, .slice a1 ls.length cap1]) := fun W' hW => ⟨(hW.cell (p := ⟨w1.heap.size + 1 + 1, 0, none⟩) HS3.out.2.2.1.lt).trans HS3.out.2.2.1.cell, (hW.cell (p := ⟨w.heap.size + 1 + 1, 0, none⟩) Hkf.out.2.lt).trans Hkf.out.2.cell.1, core7_in ((hW.block _ (lt_of_block HX3.out)).trans HX3.out) rfl⟩
          refine' wpIn_cut_free (.plain 4 (.fork3 0 (.fork 1 (.sole 2 (.sole 3 (.sole 5 .done))) 2 (.sole 1 (.sole 3 (.sole 5 .done)))) 1 (.fork 0 (.sole 2 (.sole 3 (.sole 5 .done))) 2 (.fork 0 (.sole 3 (.sole 5 .done)) 3 (.sole 0 (.sole 5 .done)))) 2 (.fork 0 (.sole 1 (.sole 3 (.sole 5 .done))) 1 (.fork 0 (.sole 3 (.sole 5 .done)) 3 (.sole 0 (.sole 5 .done)))))) (by kernel_rfl) (by kernel_rfl) (by rfl) ({ tmps := #[.agg #[.int .i64 k, .int .u64 (word s 0), .int .u64 (word s 1), .int .u64 (word s 2), .int .u64 (word s 3), .int .i64 n, .slice a len cap], .int .i64 6, .func (Fn.func 54) #[] #[], .pointer (some ⟨w.heap.size, 0, none⟩), .pointer (some ⟨w.heap.size + 1, 0, none⟩), .pointer (some ⟨w.heap.size + 1 + 1, 0, none⟩), .slice none 0 0, .pointer (some ⟨w1.heap.size, 0, none⟩), .pointer (some ⟨w1.heap.size + 1 + 1, 0, none⟩), .pointer (some ⟨W.heap.size + 1, 0, none⟩), .pointer (some ⟨gz, 0, none⟩), .bool false, .agg #[.int .i64 k, .int .u64 (word s 0), .int .u64 (word s 1), .int .u64 (word s 2), .int .u64 (word s 3), .int .i64 n, .slice a len cap], .bool true, .bool false, .map (some (w1.heap.size + 1)), .agg #[.int .i64 k, .int .u64 (word s 0), .int .u64 (word s 1), .int .u64 (word s 2), .int .u64 (word s 3), .int .i64 n, .slice a len cap], .func (Fn.func 68) #[] #[.pointer (some ⟨w1.heap.size + 1 + 1 + 1, 0, none⟩)], .agg #[.int .i64 6, .int .u64 (word s1 0), .int .u64 (word s1 1), .int .u64 (word s1 2), .int .u64 (word s1 3), .int .i64 n1, .slice a1 ls.length cap1], .pointer (some ⟨W.heap.size + 1, 0, none⟩), .int .i64 6, .int .i64 6, .bool false, .tuple #[.agg #[], .bool false], .map (some (w1.heap.size + 1)), .func (Fn.func 54) #[] #[], .agg #[.int .i64 6, .int .u64 (word s1 0), .int .u64 (word s1 1), .int .u64 (word s1 2), .int .u64 (word s1 3), .int .i64 n1, .slice a1 ls.length cap1], .int .i64 n1, .tuple #[.agg #[], .bool false], .agg #[], .bool false, .bool false, .bool true, .map (some (w1.heap.size + 1)), .func (Fn.func 54) #[] #[], .agg #[.int .i64 6, .int .u64 (word s1 0), .int .u64 (word s1 1), .int .u64 (word s1 2), .int .u64 (word s1 3), .int .i64 n1, .slice a1 ls.length cap1], .int .i64 n1, .agg #[], undef, undef, undef, undef, undef, undef, undef], defers := [] }) (fun wx => F10 w1.heap.size w0 W3 w1.heap.size (w1.heap.size + 1) (w1.heap.size + 1 + 1) W.heap.size (W.heap.size + 1) o #[.int .i64 6, .int .u64 (word s1 0), .int .u64 (word s1 1), .int .u64 (word s1 2), .int .u64 (word s1 3), .int .i64 n1, .slice a1 ls.length cap1] v acc (D.put (keyI n1) (.agg [])) wx) ?_ ?_
          · obtain ⟨wd2, hwd2⟩ : ∃ wd2, wd2 = wz.drew := ⟨_, rfl⟩
            have HBd := Lib.hid (HB.out.trans ((drew_below wz).mono HB.out.size))
            rw [← hwd2] at HBd
            obtain ⟨c8d, c5d, h7d⟩ := HF8.out _ HBd.out
            rw [← hwd2]
            clear hwd2
            iterate 1
              refine' free_plain ?_ ?_ (fun K hK => ?_)
              rotate_left 1
              · simp only [List.getElem?_toArray, List.getElem?_cons_zero, List.getElem?_cons_succ]; exact rfl
              · exact rfl
              go_big_quiet_op
              refine hK _ ?_
              clear hK K
              try simp only []
            refine free_fork3 ?_ ?_ ?_
            · refine' free_step ?_ ?_ (fun K hK => ?_)
              rotate_left 1
              · simp only [List.getElem?_toArray, List.getElem?_cons_zero]; exact rfl
              · exact rfl
              unfold Oper.wp execOp
              go_simp
              refine hK _ _ ?_
              clear hK K
              refine free_fork ?_ ?_
              · refine' free_step ?_ ?_ (fun K hK => ?_)
                rotate_left 1
                · simp only [List.getElem?_toArray, List.getElem?_cons_zero, List.getElem?_cons_succ]; exact rfl
                · exact rfl
                unfold Oper.wp execOp
                go_simp
                refine hK _ _ ?_
                clear hK K
                refine' free_sole ?_ ?_ (fun K hK => ?_)
                rotate_left 1
                · simp only [List.getElem?_toArray, List.getElem?_cons_zero, List.getElem?_cons_succ]; exact rfl
                · exact rfl
                refine wp_load_core _ rfl (W.heap.size + 1) 0 _ rfl (by first | exact h7e | exact h7d) ?_
                refine hK _ _ ?_
                clear hK K
                try simp only [Act.put, List.setIfInBounds_toArray, List.set_cons_zero, List.set_cons_succ]
                refine' free_sole ?_ ?_ (fun K hK => ?_)
                rotate_left 1
                · simp only [List.getElem?_toArray, List.getElem?_cons_zero, List.getElem?_cons_succ]; exact rfl
                · exact rfl
                go_simp
                refine (field_walk 6 s1 n1 a1 ls.length cap1 _).mono ?_
                rintro e wc2 ⟨rfl, hb⟩
                refine hK _ _ ?_
                have HBe := Lib.hid (HBd.out.trans (hb.mono HBd.out.size))
                obtain ⟨c8e, c5e, h7e⟩ := HF8.out _ HBe.out
                clear hb
                clear hK K
                try simp only [Act.put, List.setIfInBounds_toArray, List.set_cons_zero, List.set_cons_succ]
                refine' free_sole ?_ ?_ (fun K hK => ?_)
                rotate_left 1
                · simp only [List.getElem?_toArray, List.getElem?_cons_zero, List.getElem?_cons_succ]; exact rfl
                · exact rfl
                refine wp_mapUpdate_unit (ht := Tryd.underlying124) _ _ _ 124 rfl (w1.heap.size + 1) acc.length D rfl (map_later HS3.out.2.2.2.1 HBe.out) (by unfold maxLen; omega) n1 Hn1f.out rfl rfl ?_
                intro wm hown hgr
                refine hK _ _ ?_
                clear hK K
                try simp only [Act.put]
                refine free_done ?_
                exact ⟨rfl, rfl, step10 HS3.out Ho3.out HX3.out HBe.out hown hgr (by omega) (by omega) (by omega) (by omega) (by omega) (by omega) (by omega)⟩
              · refine' free_step ?_ ?_ (fun K hK => ?_)
                rotate_left 1
                · simp only [List.getElem?_toArray, List.getElem?_cons_zero, List.getElem?_cons_succ]; exact rfl
                · exact rfl
                refine wp_load_core _ rfl (W.heap.size + 1) 0 _ rfl (by first | exact h7e | exact h7d) ?_
                refine hK _ _ ?_
                clear hK K
                try simp only [Act.put, List.setIfInBounds_toArray, List.set_cons_zero, List.set_cons_succ]
                refine' free_sole ?_ ?_ (fun K hK => ?_)
                rotate_left 1
                · simp only [List.getElem?_toArray, List.getElem?_cons_zero, List.getElem?_cons_succ]; exact rfl
                · exact rfl
                unfold Oper.wp execOp
                go_simp
                refine hK _ _ ?_
                clear hK K
                refine' free_sole ?_ ?_ (fun K hK => ?_)
                rotate_left 1
                · simp only [List.getElem?_toArray, List.getElem?_cons_zero, List.getElem?_cons_succ]; exact rfl
                · exact rfl
                go_simp
                refine (field_walk 6 s1 n1 a1 ls.length cap1 _).mono ?_
                rintro e wc2 ⟨rfl, hb⟩
                refine hK _ _ ?_
                have HBe := Lib.hid (HBd.out.trans (hb.mono HBd.out.size))
                obtain ⟨c8e, c5e, h7e⟩ := HF8.out _ HBe.out
                clear hb
                clear hK K
                try simp only [Act.put, List.setIfInBounds_toArray, List.set_cons_zero, List.set_cons_succ]
                refine' free_sole ?_ ?_ (fun K hK => ?_)
                rotate_left 1
                · simp only [List.getElem?_toArray, List.getElem?_cons_zero, List.getElem?_cons_succ]; exact rfl
                · exact rfl
                refine wp_mapUpdate_unit (ht := Tryd.underlying124) _ _ _ 124 rfl (w1.heap.size + 1) acc.length D rfl (map_later HS3.out.2.2.2.1 HBe.out) (by unfold maxLen; omega) n1 Hn1f.out rfl rfl ?_
                intro wm hown hgr
                refine hK _ _ ?_
                clear hK K
                try simp only [Act.put]
                refine free_done ?_
                exact ⟨rfl, rfl, step10 HS3.out Ho3.out HX3.out HBe.out hown hgr (by omega) (by omega) (by omega) (by omega) (by omega) (by omega) (by omega)⟩
            · refine' free_step ?_ ?_ (fun K hK => ?_)
              rotate_left 1
              · simp only [List.getElem?_toArray, List.getElem?_cons_zero, List.getElem?_cons_succ]; exact rfl
              · exact rfl
              unfold Oper.wp execOp
              go_simp
              refine hK _ _ ?_
              clear hK K
              refine free_fork ?_ ?_
              · refine' free_step ?_ ?_ (fun K hK => ?_)
                rotate_left 1
                · simp only [List.getElem?_toArray, List.getElem?_cons_zero]; exact rfl
                · exact rfl
                unfold Oper.wp execOp
                go_simp
                refine hK _ _ ?_
                clear hK K
                refine' free_sole ?_ ?_ (fun K hK => ?_)
                rotate_left 1
                · simp only [List.getElem?_toArray, List.getElem?_cons_zero, List.getElem?_cons_succ]; exact rfl
                · exact rfl
                refine wp_load_core _ rfl (W.heap.size + 1) 0 _ rfl (by first | exact h7e | exact h7d) ?_
                refine hK _ _ ?_
                clear hK K
                try simp only [Act.put, List.setIfInBounds_toArray, List.set_cons_zero, List.set_cons_succ]
                refine' free_sole ?_ ?_ (fun K hK => ?_)
                rotate_left 1
                · simp only [List.getElem?_toArray, List.getElem?_cons_zero, List.getElem?_cons_succ]; exact rfl
                · exact rfl
                go_simp
                refine (field_walk 6 s1 n1 a1 ls.length cap1 _).mono ?_
                rintro e wc2 ⟨rfl, hb⟩
                refine hK _ _ ?_
                have HBe := Lib.hid (HBd.out.trans (hb.mono HBd.out.size))
                obtain ⟨c8e, c5e, h7e⟩ := HF8.out _ HBe.out
                clear hb
                clear hK K
                try simp only [Act.put, List.setIfInBounds_toArray, List.set_cons_zero, List.set_cons_succ]
                refine' free_sole ?_ ?_ (fun K hK => ?_)
                rotate_left 1
                · simp only [List.getElem?_toArray, List.getElem?_cons_zero, List.getElem?_cons_succ]; exact rfl
                · exact rfl
                refine wp_mapUpdate_unit (ht := Tryd.underlying124) _ _ _ 124 rfl (w1.heap.size + 1) acc.length D rfl (map_later HS3.out.2.2.2.1 HBe.out) (by unfold maxLen; omega) n1 Hn1f.out rfl rfl ?_
                intro wm hown hgr
                refine hK _ _ ?_
                clear hK K
                try simp only [Act.put]
                refine free_done ?_
                exact ⟨rfl, rfl, step10 HS3.out Ho3.out HX3.out HBe.out hown hgr (by omega) (by omega) (by omega) (by omega) (by omega) (by omega) (by omega)⟩
              · refine' free_step ?_ ?_ (fun K hK => ?_)
                rotate_left 1
                · simp only [List.getElem?_toArray, List.getElem?_cons_zero, List.getElem?_cons_succ]; exact rfl
                · exact rfl
                refine wp_load_core _ rfl (W.heap.size + 1) 0 _ rfl (by first | exact h7e | exact h7d) ?_
                refine hK _ _ ?_
                clear hK K
                try simp only [Act.put, List.setIfInBounds_toArray, List.set_cons_zero, List.set_cons_succ]
                refine free_fork ?_ ?_
                · refine' free_step ?_ ?_ (fun K hK => ?_)
                  rotate_left 1
                  · simp only [List.getElem?_toArray, List.getElem?_cons_zero]; exact rfl
                  · exact rfl
                  unfold Oper.wp execOp
                  go_simp
                  refine hK _ _ ?_
                  clear hK K
                  refine' free_sole ?_ ?_ (fun K hK => ?_)
                  rotate_left 1
                  · simp only [List.getElem?_toArray, List.getElem?_cons_zero, List.getElem?_cons_succ]; exact rfl
                  · exact rfl
                  go_simp
                  refine (field_walk 6 s1 n1 a1 ls.length cap1 _).mono ?_
                  rintro e wc2 ⟨rfl, hb⟩
                  refine hK _ _ ?_
                  have HBe := Lib.hid (HBd.out.trans (hb.mono HBd.out.size))
                  obtain ⟨c8e, c5e, h7e⟩ := HF8.out _ HBe.out
                  clear hb
                  clear hK K
                  try simp only [Act.put, List.setIfInBounds_toArray, List.set_cons_zero, List.set_cons_succ]
                  refine' free_sole ?_ ?_ (fun K hK => ?_)
                  rotate_left 1
                  · simp only [List.getElem?_toArray, List.getElem?_cons_zero, List.getElem?_cons_succ]; exact rfl
                  · exact rfl
                  refine wp_mapUpdate_unit (ht := Tryd.underlying124) _ _ _ 124 rfl (w1.heap.size + 1) acc.length D rfl (map_later HS3.out.2.2.2.1 HBe.out) (by unfold maxLen; omega) n1 Hn1f.out rfl rfl ?_
                  intro wm hown hgr
                  refine hK _ _ ?_
                  clear hK K
                  try simp only [Act.put]
                  refine free_done ?_
                  exact ⟨rfl, rfl, step10 HS3.out Ho3.out HX3.out HBe.out hown hgr (by omega) (by omega) (by omega) (by omega) (by omega) (by omega) (by omega)⟩
                · refine' free_step ?_ ?_ (fun K hK => ?_)
                  rotate_left 1
                  · simp only [List.getElem?_toArray, List.getElem?_cons_zero, List.getElem?_cons_succ]; exact rfl
                  · exact rfl
                  go_simp
                  refine (field_walk 6 s1 n1 a1 ls.length cap1 _).mono ?_
                  rintro e wc2 ⟨rfl, hb⟩
                  refine hK _ _ ?_
                  have HBe := Lib.hid (HBd.out.trans (hb.mono HBd.out.size))
                  obtain ⟨c8e, c5e, h7e⟩ := HF8.out _ HBe.out
                  clear hb
                  clear hK K
                  try simp only [Act.put, List.setIfInBounds_toArray, List.set_cons_zero, List.set_cons_succ]
                  refine' free_sole ?_ ?_ (fun K hK => ?_)
                  rotate_left 1
                  · simp only [List.getElem?_toArray, List.getElem?_cons_zero]; exact rfl
                  · exact rfl
                  unfold Oper.wp execOp
                  go_simp
                  refine hK _ _ ?_
                  clear hK K
                  refine' free_sole ?_ ?_ (fun K hK => ?_)
                  rotate_left 1
                  · simp only [List.getElem?_toArray, List.getElem?_cons_zero, List.getElem?_cons_succ]; exact rfl
                  · exact rfl
                  refine wp_mapUpdate_unit (ht := Tryd.underlying124) _ _ _ 124 rfl (w1.heap.size + 1) acc.length D rfl (map_later HS3.out.2.2.2.1 HBe.out) (by unfold maxLen; omega) n1 Hn1f.out rfl rfl ?_
                  intro wm hown hgr
                  refine hK _ _ ?_
                  clear hK K
                  try simp only [Act.put]
                  refine free_done ?_
                  exact ⟨rfl, rfl, step10 HS3.out Ho3.out HX3.out HBe.out hown hgr (by omega) (by omega) (by omega) (by omega) (by omega) (by omega) (by omega)⟩
            · refine' free_step ?_ ?_ (fun K hK => ?_)
              rotate_left 1
              · simp only [List.getElem?_toArray, List.getElem?_cons_zero, List.getElem?_cons_succ]; exact rfl
              · exact rfl
              refine wp_load_core _ rfl (W.heap.size + 1) 0 _ rfl (by first | exact h7e | exact h7d) ?_
              refine hK _ _ ?_
              clear hK K
              try simp only [Act.put, List.setIfInBounds_toArray, List.set_cons_zero, List.set_cons_succ]
              refine free_fork ?_ ?_
              · refine' free_step ?_ ?_ (fun K hK => ?_)
                rotate_left 1
                · simp only [List.getElem?_toArray, List.getElem?_cons_zero]; exact rfl
                · exact rfl
                unfold Oper.wp execOp
                go_simp
                refine hK _ _ ?_
                clear hK K
                refine' free_sole ?_ ?_ (fun K hK => ?_)
                rotate_left 1
                · simp only [List.getElem?_toArray, List.getElem?_cons_zero, List.getElem?_cons_succ]; exact rfl
                · exact rfl
                unfold Oper.wp execOp
                go_simp
                refine hK _ _ ?_
                clear hK K
                refine' free_sole ?_ ?_ (fun K hK => ?_)
                rotate_left 1
                · simp only [List.getElem?_toArray, List.getElem?_cons_zero, List.getElem?_cons_succ]; exact rfl
                · exact rfl
                go_simp
                refine (field_walk 6 s1 n1 a1 ls.length cap1 _).mono ?_
                rintro e wc2 ⟨rfl, hb⟩
                refine hK _ _ ?_
                have HBe := Lib.hid (HBd.out.trans (hb.mono HBd.out.size))
                obtain ⟨c8e, c5e, h7e⟩ := HF8.out _ HBe.out
                clear hb
                clear hK K
                try simp only [Act.put, List.setIfInBounds_toArray, List.set_cons_zero, List.set_cons_succ]
                refine' free_sole ?_ ?_ (fun K hK => ?_)
                rotate_left 1
                · simp only [List.getElem?_toArray, List.getElem?_cons_zero, List.getElem?_cons_succ]; exact rfl
                · exact rfl
                refine wp_mapUpdate_unit (ht := Tryd.underlying124) _ _ _ 124 rfl (w1.heap.size + 1) acc.length D rfl (map_later HS3.out.2.2.2.1 HBe.out) (by unfold maxLen; omega) n1 Hn1f.out rfl rfl ?_
                intro wm hown hgr
                refine hK _ _ ?_
                clear hK K
                try simp only [Act.put]
                refine free_done ?_
                exact ⟨rfl, rfl, step10 HS3.out Ho3.out HX3.out HBe.out hown hgr (by omega) (by omega) (by omega) (by omega) (by omega) (by omega) (by omega)⟩
              · refine' free_step ?_ ?_ (fun K hK => ?_)
                rotate_left 1
                · simp only [List.getElem?_toArray, List.getElem?_cons_zero, List.getElem?_cons_succ]; exact rfl
                · exact rfl
                unfold Oper.wp execOp
                go_simp
                refine hK _ _ ?_
                clear hK K
                refine free_fork ?_ ?_
                · refine' free_step ?_ ?_ (fun K hK => ?_)
                  rotate_left 1
                  · simp only [List.getElem?_toArray, List.getElem?_cons_zero]; exact rfl
                  · exact rfl
                  unfold Oper.wp execOp
                  go_simp
                  refine hK _ _ ?_
                  clear hK K
                  refine' free_sole ?_ ?_ (fun K hK => ?_)
                  rotate_left 1
                  · simp only [List.getElem?_toArray, List.getElem?_cons_zero, List.getElem?_cons_succ]; exact rfl
                  · exact rfl
                  go_simp
                  refine (field_walk 6 s1 n1 a1 ls.length cap1 _).mono ?_
                  rintro e wc2 ⟨rfl, hb⟩
                  refine hK _ _ ?_
                  have HBe := Lib.hid (HBd.out.trans (hb.mono HBd.out.size))
                  obtain ⟨c8e, c5e, h7e⟩ := HF8.out _ HBe.out
                  clear hb
                  clear hK K
                  try simp only [Act.put, List.setIfInBounds_toArray, List.set_cons_zero, List.set_cons_succ]
                  refine' free_sole ?_ ?_ (fun K hK => ?_)
                  rotate_left 1
                  · simp only [List.getElem?_toArray, List.getElem?_cons_zero, List.getElem?_cons_succ]; exact rfl
                  · exact rfl
                  refine wp_mapUpdate_unit (ht := Tryd.underlying124) _ _ _ 124 rfl (w1.heap.size + 1) acc.length D rfl (map_later HS3.out.2.2.2.1 HBe.out) (by unfold maxLen; omega) n1 Hn1f.out rfl rfl ?_
                  intro wm hown hgr
                  refine hK _ _ ?_
                  clear hK K
                  try simp only [Act.put]
                  refine free_done ?_
                  exact ⟨rfl, rfl, step10 HS3.out Ho3.out HX3.out HBe.out hown hgr (by omega) (by omega) (by omega) (by omega) (by omega) (by omega) (by omega)⟩
                · refine' free_step ?_ ?_ (fun K hK => ?_)
                  rotate_left 1
                  · simp only [List.getElem?_toArray, List.getElem?_cons_zero, List.getElem?_cons_succ]; exact rfl
                  · exact rfl
                  go_simp
                  refine (field_walk 6 s1 n1 a1 ls.length cap1 _).mono ?_
                  rintro e wc2 ⟨rfl, hb⟩
                  refine hK _ _ ?_
                  have HBe := Lib.hid (HBd.out.trans (hb.mono HBd.out.size))
                  obtain ⟨c8e, c5e, h7e⟩ := HF8.out _ HBe.out
                  clear hb
                  clear hK K
                  try simp only [Act.put, List.setIfInBounds_toArray, List.set_cons_zero, List.set_cons_succ]
                  refine' free_sole ?_ ?_ (fun K hK => ?_)
                  rotate_left 1
                  · simp only [List.getElem?_toArray, List.getElem?_cons_zero]; exact rfl
                  · exact rfl
                  unfold Oper.wp execOp
                  go_simp
                  refine hK _ _ ?_
                  clear hK K
                  refine' free_sole ?_ ?_ (fun K hK => ?_)
                  rotate_left 1
                  · simp only [List.getElem?_toArray, List.getElem?_cons_zero, List.getElem?_cons_succ]; exact rfl
                  · exact rfl
                  refine wp_mapUpdate_unit (ht := Tryd.underlying124) _ _ _ 124 rfl (w1.heap.size + 1) acc.length D rfl (map_later HS3.out.2.2.2.1 HBe.out) (by unfold maxLen; omega) n1 Hn1f.out rfl rfl ?_
                  intro wm hown hgr
                  refine hK _ _ ?_
                  clear hK K
                  try simp only [Act.put]
                  refine free_done ?_
                  exact ⟨rfl, rfl, step10 HS3.out Ho3.out HX3.out HBe.out hown hgr (by omega) (by omega) (by omega) (by omega) (by omega) (by omega) (by omega)⟩
          · intro wm h10
            have H10 := Lib.hid h10
            clear h10
            gi_wp2
            have HF11 : Hid (∀ W' : World, Below wm.heap.size wm W' → W'.cell? ⟨w1.heap.size, 0, none⟩ = some v ∧ W'.cell? ⟨w.heap.size + 1 + 1, 0, none⟩ = some (.func (Fn.func 54) #[] #[]) ∧ Core7 W' (W.heap.size + 1) 0 [.int .i64 6, .int .u64 (word s1 0), .int .u64 (word s1 1), .int .u64 (word s1 2), .int .u64 (word s1 3), .int .i64 n1, .slice a1 ls.length cap1]) := fun W' hW => by
              have hkm := HkB.out wm H10.out.2.2.2.2.1
              exact ⟨(hW.cell (p := ⟨w1.heap.size, 0, none⟩) H10.out.1.lt).trans H10.out.1.cell, (hW.cell (p := ⟨w.heap.size + 1 + 1, 0, none⟩) hkm.2.lt).trans hkm.2.cell.1, core7_in ((hW.block _ (lt_of_block H10.out.2.2.2.2.2.2.1)).trans H10.out.2.2.2.2.2.2.1) rfl⟩
            have Hne := Lib.hid (show some W.heap.size ≠ v.ownBlock ∧ some (w1.heap.size + 1) ≠ v.ownBlock from ⟨fun e => by have := hrowlt _ e.symm; omega, fun e => (row_cells HS3.out.2.1 (map_block HS3.out.2.2.2.1)).elim (fun h => by rw [h] at e; cases e) (fun h => h e.symm)⟩)
            refine wpIn_mono (wpIn_round_free (K := fun _ wx => ∃ (v' : Value), IntsF w1.heap.size w0 w1.heap.size (w1.heap.size + 1) (w1.heap.size + 1 + 1) v' (acc ++ [n1]) (D.put (keyI n1) (.agg [])) wx ∧ wx.heap[W.heap.size]? = some o ∧ KeepsFrom w0.heap.size W3 wx) (.fork3 0 (.fork 1 (.sole 2 (.sole 3 (.sole 4 (.sole 5 (.sole 6 .done))))) 2 (.sole 1 (.sole 3 (.sole 4 (.sole 5 (.sole 6 .done)))))) 1 (.fork 0 (.sole 2 (.sole 3 (.sole 4 (.sole 5 (.sole 6 .done))))) 2 (.fork 0 (.sole 3 (.sole 4 (.sole 5 (.sole 6 .done)))) 3 (.fork 0 (.sole 4 (.sole 5 (.sole 6 .done))) 4 (.sole 0 (.sole 5 (.sole 6 .done)))))) 2 (.fork 0 (.sole 1 (.sole 3 (.sole 4 (.sole 5 (.sole 6 .done))))) 1 (.fork 0 (.sole 3 (.sole 4 (.sole 5 (.sole 6 .done)))) 3 (.fork 0 (.sole 4 (.sole 5 (.sole 6 .done))) 4 (.sole 0 (.sole 5 (.sole 6 .done))))))) (by kernel_rfl) (by kernel_rfl) (by rfl) ?reg) ?fin
            case reg =>
              obtain ⟨wd3, hwd3⟩ : ∃ wd3, wd3 = wm.drew := ⟨_, rfl⟩
              have HBd := Lib.hid (drew_below wm)
              rw [← hwd3] at HBd
              obtain ⟨c7d, c5d, h7d⟩ := HF11.out _ HBd.out
              rw [← hwd3]
              clear hwd3
              refine free_fork3 ?_ ?_ ?_
              · refine' free_step ?_ ?_ (fun K hK => ?_)
                rotate_left 1
                · simp only [List.getElem?_toArray, List.getElem?_cons_zero]; exact rfl
                · exact rfl
                unfold Oper.wp execOp
                go_simp
                refine hK _ _ ?_
                clear hK K
                refine free_fork ?_ ?_
                · refine' free_step ?_ ?_ (fun K hK => ?_)
                  rotate_left 1
                  · simp only [List.getElem?_toArray, List.getElem?_cons_zero, List.getElem?_cons_succ]; exact rfl
                  · exact rfl
                  unfold Oper.wp execOp
                  go_simp
                  refine hK _ _ ?_
                  clear hK K
                  refine' free_sole ?_ ?_ (fun K hK => ?_)
                  rotate_left 1
                  · simp only [List.getElem?_toArray, List.getElem?_cons_zero, List.getElem?_cons_succ]; exact rfl
                  · exact rfl
                  refine wp_load_core _ rfl (W.heap.size + 1) 0 _ rfl (by first | exact h7e | exact h7d) ?_
                  refine hK _ _ ?_
                  clear hK K
                  try simp only [Act.put, List.setIfInBounds_toArray, List.set_cons_zero, List.set_cons_succ]
                  refine' free_sole ?_ ?_ (fun K hK => ?_)
                  rotate_left 1
                  · simp only [List.getElem?_toArray, List.getElem?_cons_zero, List.getElem?_cons_succ]; exact rfl
                  · exact rfl
                  go_simp
                  refine (field_walk 6 s1 n1 a1 ls.length cap1 _).mono ?_
                  rintro e wc3 ⟨rfl, hb⟩
                  refine hK _ _ ?_
                  have HBe := Lib.hid (HBd.out.trans (hb.mono HBd.out.size))
                  obtain ⟨c7e, c5e, h7e⟩ := HF11.out _ HBe.out
                  have c7f := fun o : Obj => (HF11.out _ (HBe.out.alloc HBe.out.size o)).1
                  clear hb
                  clear hK K
                  try simp only [Act.put, List.setIfInBounds_toArray, List.set_cons_zero, List.set_cons_succ]
                  refine' free_sole ?_ ?_ (fun K hK => ?_)
                  rotate_left 1
                  · simp only [List.getElem?_toArray, List.getElem?_cons_zero, List.getElem?_cons_succ]; exact rfl
                  · exact rfl
                  unfold Oper.wp execOp
                  go_simp
                  refine hK _ _ ?_
                  clear hK K
                  refine' free_sole ?_ ?_ (fun K hK => ?_)
                  rotate_left 1
                  · simp only [List.getElem?_toArray, List.getElem?_cons_zero, List.getElem?_cons_succ]; exact rfl
                  · exact rfl
                  refine wp_append_int _ _ rfl w1.heap.size v acc.length (intCells acc) rfl ((H10.out.2.1.kept (below_grown HBe.out) (Decidable.em _)).alloc _) wc3.heap.size n1 rfl (by rw [cells_at (World.alloc_heap_new wc3 _)]; rfl) (by omega) (by have h1 := HBe.out.size; have h2 := H10.out.2.2.2.2.2.2.2.2; simp; omega) ?_
                  intro v' wa hown hgr
                  obtain ⟨g', cap', rfl⟩ := ownsRow_succ hown
                  obtain ⟨hv1, hI11, ho11, hk11⟩ := step11 H10.out HBe.out hown hgr (by omega) (by omega) Hne.out.1 Hne.out.2 (by omega) (Nat.le_refl _) (by omega)
                  have hcv := hv1.cell
                  have hfv := hv1.frozen
                  have H11 := Lib.hid (And.intro hI11 (And.intro ho11 hk11))
                  clear hI11 ho11 hk11 hv1 hown hgr
                  refine hK _ _ ?_
                  clear hK K
                  try simp only [Act.put, List.setIfInBounds_toArray, List.set_cons_zero, List.set_cons_succ]
                  refine' free_sole ?_ ?_ (fun K hK => ?_)
                  rotate_left 1
                  · simp only [List.getElem?_toArray, List.getElem?_cons_zero, List.getElem?_cons_succ]; exact rfl
                  · exact rfl
                  unfold Oper.wp execOp
                  go_simp
                  refine hK _ _ ?_
                  clear hK K
                  try simp only [Act.put]
                  refine free_done ?_
                  exact ⟨rfl, _, H11.out⟩
                · refine' free_step ?_ ?_ (fun K hK => ?_)
                  rotate_left 1
                  · simp only [List.getElem?_toArray, List.getElem?_cons_zero, List.getElem?_cons_succ]; exact rfl
                  · exact rfl
                  refine wp_load_core _ rfl (W.heap.size + 1) 0 _ rfl (by first | exact h7e | exact h7d) ?_
                  refine hK _ _ ?_
                  clear hK K
                  try simp only [Act.put, List.setIfInBounds_toArray, List.set_cons_zero, List.set_cons_succ]
                  refine' free_sole ?_ ?_ (fun K hK => ?_)
                  rotate_left 1
                  · simp only [List.getElem?_toArray, List.getElem?_cons_zero, List.getElem?_cons_succ]; exact rfl
                  · exact rfl
                  unfold Oper.wp execOp
                  go_simp
                  refine hK _ _ ?_
                  clear hK K
                  refine' free_sole ?_ ?_ (fun K hK => ?_)
                  rotate_left 1
                  · simp only [List.getElem?_toArray, List.getElem?_cons_zero, List.getElem?_cons_succ]; exact rfl
                  · exact rfl
                  go_simp
                  refine (field_walk 6 s1 n1 a1 ls.length cap1 _).mono ?_
                  rintro e wc3 ⟨rfl, hb⟩
                  refine hK _ _ ?_
                  have HBe := Lib.hid (HBd.out.trans (hb.mono HBd.out.size))
                  obtain ⟨c7e, c5e, h7e⟩ := HF11.out _ HBe.out
                  have c7f := fun o : Obj => (HF11.out _ (HBe.out.alloc HBe.out.size o)).1
                  clear hb
                  clear hK K
                  try simp only [Act.put, List.setIfInBounds_toArray, List.set_cons_zero, List.set_cons_succ]
                  refine' free_sole ?_ ?_ (fun K hK => ?_)
                  rotate_left 1
                  · simp only [List.getElem?_toArray, List.getElem?_cons_zero, List.getElem?_cons_succ]; exact rfl
                  · exact rfl
                  unfold Oper.wp execOp
                  go_simp
                  refine hK _ _ ?_
                  clear hK K
                  refine' free_sole ?_ ?_ (fun K hK => ?_)
                  rotate_left 1
                  · simp only [List.getElem?_toArray, List.getElem?_cons_zero, List.getElem?_cons_succ]; exact rfl
                  · exact rfl
                  refine wp_append_int _ _ rfl w1.heap.size v acc.length (intCells acc) rfl ((H10.out.2.1.kept (below_grown HBe.out) (Decidable.em _)).alloc _) wc3.heap.size n1 rfl (by rw [cells_at (World.alloc_heap_new wc3 _)]; rfl) (by omega) (by have h1 := HBe.out.size; have h2 := H10.out.2.2.2.2.2.2.2.2; simp; omega) ?_
                  intro v' wa hown hgr
                  obtain ⟨g', cap', rfl⟩ := ownsRow_succ hown
                  obtain ⟨hv1, hI11, ho11, hk11⟩ := step11 H10.out HBe.out hown hgr (by omega) (by omega) Hne.out.1 Hne.out.2 (by omega) (Nat.le_refl _) (by omega)
                  have hcv := hv1.cell
                  have hfv := hv1.frozen
                  have H11 := Lib.hid (And.intro hI11 (And.intro ho11 hk11))
                  clear hI11 ho11 hk11 hv1 hown hgr
                  refine hK _ _ ?_
                  clear hK K
                  try simp only [Act.put, List.setIfInBounds_toArray, List.set_cons_zero, List.set_cons_succ]
                  refine' free_sole ?_ ?_ (fun K hK => ?_)
                  rotate_left 1
                  · simp only [List.getElem?_toArray, List.getElem?_cons_zero, List.getElem?_cons_succ]; exact rfl
                  · exact rfl
                  unfold Oper.wp execOp
                  go_simp
                  refine hK _ _ ?_
                  clear hK K
                  try simp only [Act.put]
                  refine free_done ?_
                  exact ⟨rfl, _, H11.out⟩
              · refine' free_step ?_ ?_ (fun K hK => ?_)
                rotate_left 1
                · simp only [List.getElem?_toArray, List.getElem?_cons_zero, List.getElem?_cons_succ]; exact rfl
                · exact rfl
                unfold Oper.wp execOp
                go_simp
                refine hK _ _ ?_
                clear hK K
                refine free_fork ?_ ?_
                · refine' free_step ?_ ?_ (fun K hK => ?_)
                  rotate_left 1
                  · simp only [List.getElem?_toArray, List.getElem?_cons_zero]; exact rfl
                  · exact rfl
                  unfold Oper.wp execOp
                  go_simp
                  refine hK _ _ ?_
                  clear hK K
                  refine' free_sole ?_ ?_ (fun K hK => ?_)
                  rotate_left 1
                  · simp only [List.getElem?_toArray, List.getElem?_cons_zero, List.getElem?_cons_succ]; exact rfl
                  · exact rfl
                  refine wp_load_core _ rfl (W.heap.size + 1) 0 _ rfl (by first | exact h7e | exact h7d) ?_
                  refine hK _ _ ?_
                  clear hK K
                  try simp only [Act.put, List.setIfInBounds_toArray, List.set_cons_zero, List.set_cons_succ]
                  refine' free_sole ?_ ?_ (fun K hK => ?_)
                  rotate_left 1
                  · simp only [List.getElem?_toArray, List.getElem?_cons_zero, List.getElem?_cons_succ]; exact rfl
                  · exact rfl
                  go_simp
                  refine (field_walk 6 s1 n1 a1 ls.length cap1 _).mono ?_
                  rintro e wc3 ⟨rfl, hb⟩
                  refine hK _ _ ?_
                  have HBe := Lib.hid (HBd.out.trans (hb.mono HBd.out.size))
                  obtain ⟨c7e, c5e, h7e⟩ := HF11.out _ HBe.out
                  have c7f := fun o : Obj => (HF11.out _ (HBe.out.alloc HBe.out.size o)).1
                  clear hb
                  clear hK K
                  try simp only [Act.put, List.setIfInBounds_toArray, List.set_cons_zero, List.set_cons_succ]
                  refine' free_sole ?_ ?_ (fun K hK => ?_)
                  rotate_left 1
                  · simp only [List.getElem?_toArray, List.getElem?_cons_zero, List.getElem?_cons_succ]; exact rfl
                  · exact rfl
                  unfold Oper.wp execOp
                  go_simp
                  refine hK _ _ ?_
                  clear hK K
                  refine' free_sole ?_ ?_ (fun K hK => ?_)
                  rotate_left 1
                  · simp only [List.getElem?_toArray, List.getElem?_cons_zero, List.getElem?_cons_succ]; exact rfl
                  · exact rfl
                  refine wp_append_int _ _ rfl w1.heap.size v acc.length (intCells acc) rfl ((H10.out.2.1.kept (below_grown HBe.out) (Decidable.em _)).alloc _) wc3.heap.size n1 rfl (by rw [cells_at (World.alloc_heap_new wc3 _)]; rfl) (by omega) (by have h1 := HBe.out.size; have h2 := H10.out.2.2.2.2.2.2.2.2; simp; omega) ?_
                  intro v' wa hown hgr
                  obtain ⟨g', cap', rfl⟩ := ownsRow_succ hown
                  obtain ⟨hv1, hI11, ho11, hk11⟩ := step11 H10.out HBe.out hown hgr (by omega) (by omega) Hne.out.1 Hne.out.2 (by omega) (Nat.le_refl _) (by omega)
                  have hcv := hv1.cell
                  have hfv := hv1.frozen
                  have H11 := Lib.hid (And.intro hI11 (And.intro ho11 hk11))
                  clear hI11 ho11 hk11 hv1 hown hgr
                  refine hK _ _ ?_
                  clear hK K
                  try simp only [Act.put, List.setIfInBounds_toArray, List.set_cons_zero, List.set_cons_succ]
                  refine' free_sole ?_ ?_ (fun K hK => ?_)
                  rotate_left 1
                  · simp only [List.getElem?_toArray, List.getElem?_cons_zero, List.getElem?_cons_succ]; exact rfl
                  · exact rfl
                  unfold Oper.wp execOp
                  go_simp
                  refine hK _ _ ?_
                  clear hK K
                  try simp only [Act.put]
                  refine free_done ?_
                  exact ⟨rfl, _, H11.out⟩
                · refine' free_step ?_ ?_ (fun K hK => ?_)
                  rotate_left 1
                  · simp only [List.getElem?_toArray, List.getElem?_cons_zero, List.getElem?_cons_succ]; exact rfl
                  · exact rfl
                  refine wp_load_core _ rfl (W.heap.size + 1) 0 _ rfl (by first | exact h7e | exact h7d) ?_
                  refine hK _ _ ?_
                  clear hK K
                  try simp only [Act.put, List.setIfInBounds_toArray, List.set_cons_zero, List.set_cons_succ]
                  refine free_fork ?_ ?_
                  · refine' free_step ?_ ?_ (fun K hK => ?_)
                    rotate_left 1
                    · simp only [List.getElem?_toArray, List.getElem?_cons_zero]; exact rfl
                    · exact rfl
                    unfold Oper.wp execOp
                    go_simp
                    refine hK _ _ ?_
                    clear hK K
                    refine' free_sole ?_ ?_ (fun K hK => ?_)
                    rotate_left 1
                    · simp only [List.getElem?_toArray, List.getElem?_cons_zero, List.getElem?_cons_succ]; exact rfl
                    · exact rfl
                    go_simp
                    refine (field_walk 6 s1 n1 a1 ls.length cap1 _).mono ?_
                    rintro e wc3 ⟨rfl, hb⟩
                    refine hK _ _ ?_
                    have HBe := Lib.hid (HBd.out.trans (hb.mono HBd.out.size))
                    obtain ⟨c7e, c5e, h7e⟩ := HF11.out _ HBe.out
                    have c7f := fun o : Obj => (HF11.out _ (HBe.out.alloc HBe.out.size o)).1
                    clear hb
                    clear hK K
                    try simp only [Act.put, List.setIfInBounds_toArray, List.set_cons_zero, List.set_cons_succ]
                    refine' free_sole ?_ ?_ (fun K hK => ?_)
                    rotate_left 1
                    · simp only [List.getElem?_toArray, List.getElem?_cons_zero, List.getElem?_cons_succ]; exact rfl
                    · exact rfl
                    unfold Oper.wp execOp
                    go_simp
                    refine hK _ _ ?_
                    clear hK K
                    refine' free_sole ?_ ?_ (fun K hK => ?_)
                    rotate_left 1
                    · simp only [List.getElem?_toArray, List.getElem?_cons_zero, List.getElem?_cons_succ]; exact rfl
                    · exact rfl
                    refine wp_append_int _ _ rfl w1.heap.size v acc.length (intCells acc) rfl ((H10.out.2.1.kept (below_grown HBe.out) (Decidable.em _)).alloc _) wc3.heap.size n1 rfl (by rw [cells_at (World.alloc_heap_new wc3 _)]; rfl) (by omega) (by have h1 := HBe.out.size; have h2 := H10.out.2.2.2.2.2.2.2.2; simp; omega) ?_
                    intro v' wa hown hgr
                    obtain ⟨g', cap', rfl⟩ := ownsRow_succ hown
                    obtain ⟨hv1, hI11, ho11, hk11⟩ := step11 H10.out HBe.out hown hgr (by omega) (by omega) Hne.out.1 Hne.out.2 (by omega) (Nat.le_refl _) (by omega)
                    have hcv := hv1.cell
                    have hfv := hv1.frozen
                    have H11 := Lib.hid (And.intro hI11 (And.intro ho11 hk11))
                    clear hI11 ho11 hk11 hv1 hown hgr
                    refine hK _ _ ?_
                    clear hK K
                    try simp only [Act.put, List.setIfInBounds_toArray, List.set_cons_zero, List.set_cons_succ]
                    refine' free_sole ?_ ?_ (fun K hK => ?_)
                    rotate_left 1
                    · simp only [List.getElem?_toArray, List.getElem?_cons_zero, List.getElem?_cons_succ]; exact rfl
                    · exact rfl
                    unfold Oper.wp execOp
                    go_simp
                    refine hK _ _ ?_
                    clear hK K
                    try simp only [Act.put]
                    refine free_done ?_
                    exact ⟨rfl, _, H11.out⟩
                  · refine' free_step ?_ ?_ (fun K hK => ?_)
                    rotate_left 1
                    · simp only [List.getElem?_toArray, List.getElem?_cons_zero, List.getElem?_cons_succ]; exact rfl
                    · exact rfl
                    go_simp
                    refine (field_walk 6 s1 n1 a1 ls.length cap1 _).mono ?_
                    rintro e wc3 ⟨rfl, hb⟩
                    refine hK _ _ ?_
                    have HBe := Lib.hid (HBd.out.trans (hb.mono HBd.out.size))
                    obtain ⟨c7e, c5e, h7e⟩ := HF11.out _ HBe.out
                    have c7f := fun o : Obj => (HF11.out _ (HBe.out.alloc HBe.out.size o)).1
                    clear hb
                    clear hK K
                    try simp only [Act.put, List.setIfInBounds_toArray, List.set_cons_zero, List.set_cons_succ]
                    refine free_fork ?_ ?_
                    · refine' free_step ?_ ?_ (fun K hK => ?_)
                      rotate_left 1
                      · simp only [List.getElem?_toArray, List.getElem?_cons_zero]; exact rfl
                      · exact rfl
                      unfold Oper.wp execOp
                      go_simp
                      refine hK _ _ ?_
                      clear hK K
                      refine' free_sole ?_ ?_ (fun K hK => ?_)
                      rotate_left 1
                      · simp only [List.getElem?_toArray, List.getElem?_cons_zero, List.getElem?_cons_succ]; exact rfl
                      · exact rfl
                      unfold Oper.wp execOp
                      go_simp
                      refine hK _ _ ?_
                      clear hK K
                      refine' free_sole ?_ ?_ (fun K hK => ?_)
                      rotate_left 1
                      · simp only [List.getElem?_toArray, List.getElem?_cons_zero, List.getElem?_cons_succ]; exact rfl
                      · exact rfl
                      refine wp_append_int _ _ rfl w1.heap.size v acc.length (intCells acc) rfl ((H10.out.2.1.kept (below_grown HBe.out) (Decidable.em _)).alloc _) wc3.heap.size n1 rfl (by rw [cells_at (World.alloc_heap_new wc3 _)]; rfl) (by omega) (by have h1 := HBe.out.size; have h2 := H10.out.2.2.2.2.2.2.2.2; simp; omega) ?_
                      intro v' wa hown hgr
                      obtain ⟨g', cap', rfl⟩ := ownsRow_succ hown
                      obtain ⟨hv1, hI11, ho11, hk11⟩ := step11 H10.out HBe.out hown hgr (by omega) (by omega) Hne.out.1 Hne.out.2 (by omega) (Nat.le_refl _) (by omega)
                      have hcv := hv1.cell
                      have hfv := hv1.frozen
                      have H11 := Lib.hid (And.intro hI11 (And.intro ho11 hk11))
                      clear hI11 ho11 hk11 hv1 hown hgr
                      refine hK _ _ ?_
                      clear hK K
                      try simp only [Act.put, List.setIfInBounds_toArray, List.set_cons_zero, List.set_cons_succ]
                      refine' free_sole ?_ ?_ (fun K hK => ?_)
                      rotate_left 1
                      · simp only [List.getElem?_toArray, List.getElem?_cons_zero, List.getElem?_cons_succ]; exact rfl
                      · exact rfl
                      unfold Oper.wp execOp
                      go_simp
                      refine hK _ _ ?_
                      clear hK K
                      try simp only [Act.put]
                      refine free_done ?_
                      exact ⟨rfl, _, H11.out⟩
                    · refine' free_step ?_ ?_ (fun K hK => ?_)
                      rotate_left 1
                      · simp only [List.getElem?_toArray, List.getElem?_cons_zero, List.getElem?_cons_succ]; exact rfl
                      · exact rfl
                      unfold Oper.wp execOp
                      go_simp
                      refine hK _ _ ?_
                      clear hK K
                      refine' free_sole ?_ ?_ (fun K hK => ?_)
                      rotate_left 1
                      · simp only [List.getElem?_toArray, List.getElem?_cons_zero]; exact rfl
                      · exact rfl
                      unfold Oper.wp execOp
                      go_simp
                      refine hK _ _ ?_
                      clear hK K
                      refine' free_sole ?_ ?_ (fun K hK => ?_)
                      rotate_left 1
                      · simp only [List.getElem?_toArray, List.getElem?_cons_zero, List.getElem?_cons_succ]; exact rfl
                      · exact rfl
                      refine wp_append_int _ _ rfl w1.heap.size v acc.length (intCells acc) rfl ((H10.out.2.1.kept (below_grown HBe.out) (Decidable.em _)).alloc _) wc3.heap.size n1 rfl (by rw [cells_at (World.alloc_heap_new wc3 _)]; rfl) (by omega) (by have h1 := HBe.out.size; have h2 := H10.out.2.2.2.2.2.2.2.2; simp; omega) ?_
                      intro v' wa hown hgr
                      obtain ⟨g', cap', rfl⟩ := ownsRow_succ hown
                      obtain ⟨hv1, hI11, ho11, hk11⟩ := step11 H10.out HBe.out hown hgr (by omega) (by omega) Hne.out.1 Hne.out.2 (by omega) (Nat.le_refl _) (by omega)
                      have hcv := hv1.cell
                      have hfv := hv1.frozen
                      have H11 := Lib.hid (And.intro hI11 (And.intro ho11 hk11))
                      clear hI11 ho11 hk11 hv1 hown hgr
                      refine hK _ _ ?_
                      clear hK K
                      try simp only [Act.put, List.setIfInBounds_toArray, List.set_cons_zero, List.set_cons_succ]
                      refine' free_sole ?_ ?_ (fun K hK => ?_)
                      rotate_left 1
                      · simp only [List.getElem?_toArray, List.getElem?_cons_zero, List.getElem?_cons_succ]; exact rfl
                      · exact rfl
                      unfold Oper.wp execOp
                      go_simp
                      refine hK _ _ ?_
                      clear hK K
                      try simp only [Act.put]
                      refine free_done ?_
                      exact ⟨rfl, _, H11.out⟩
              · refine' free_step ?_ ?_ (fun K hK => ?_)
                rotate_left 1
                · simp only [List.getElem?_toArray, List.getElem?_cons_zero, List.getElem?_cons_succ]; exact rfl
                · exact rfl
                refine wp_load_core _ rfl (W.heap.size + 1) 0 _ rfl (by first | exact h7e | exact h7d) ?_
                refine hK _ _ ?_
                clear hK K
                try simp only [Act.put, List.setIfInBounds_toArray, List.set_cons_zero, List.set_cons_succ]
                refine free_fork ?_ ?_
                · refine' free_step ?_ ?_ (fun K hK => ?_)
                  rotate_left 1
                  · simp only [List.getElem?_toArray, List.getElem?_cons_zero]; exact rfl
                  · exact rfl
                  unfold Oper.wp execOp
                  go_simp
                  refine hK _ _ ?_
                  clear hK K
                  refine' free_sole ?_ ?_ (fun K hK => ?_)
                  rotate_left 1
                  · simp only [List.getElem?_toArray, List.getElem?_cons_zero, List.getElem?_cons_succ]; exact rfl
                  · exact rfl
                  unfold Oper.wp execOp
                  go_simp
                  refine hK _ _ ?_
                  clear hK K
                  refine' free_sole ?_ ?_ (fun K hK => ?_)
                  rotate_left 1
                  · simp only [List.getElem?_toArray, List.getElem?_cons_zero, List.getElem?_cons_succ]; exact rfl
                  · exact rfl
                  go_simp
                  refine (field_walk 6 s1 n1 a1 ls.length cap1 _).mono ?_
                  rintro e wc3 ⟨rfl, hb⟩
                  refine hK _ _ ?_
                  have HBe := Lib.hid (HBd.out.trans (hb.mono HBd.out.size))
                  obtain ⟨c7e, c5e, h7e⟩ := HF11.out _ HBe.out
                  have c7f := fun o : Obj => (HF11.out _ (HBe.out.alloc HBe.out.size o)).1
                  clear hb
                  clear hK K
                  try simp only [Act.put, List.setIfInBounds_toArray, List.set_cons_zero, List.set_cons_succ]
                  refine' free_sole ?_ ?_ (fun K hK => ?_)
                  rotate_left 1
                  · simp only [List.getElem?_toArray, List.getElem?_cons_zero, List.getElem?_cons_succ]; exact rfl
                  · exact rfl
                  unfold Oper.wp execOp
                  go_simp
                  refine hK _ _ ?_
                  clear hK K
                  refine' free_sole ?_ ?_ (fun K hK => ?_)
                  rotate_left 1
                  · simp only [List.getElem?_toArray, List.getElem?_cons_zero, List.getElem?_cons_succ]; exact rfl
                  · exact rfl
                  refine wp_append_int _ _ rfl w1.heap.size v acc.length (intCells acc) rfl ((H10.out.2.1.kept (below_grown HBe.out) (Decidable.em _)).alloc _) wc3.heap.size n1 rfl (by rw [cells_at (World.alloc_heap_new wc3 _)]; rfl) (by omega) (by have h1 := HBe.out.size; have h2 := H10.out.2.2.2.2.2.2.2.2; simp; omega) ?_
                  intro v' wa hown hgr
                  obtain ⟨g', cap', rfl⟩ := ownsRow_succ hown
                  obtain ⟨hv1, hI11, ho11, hk11⟩ := step11 H10.out HBe.out hown hgr (by omega) (by omega) Hne.out.1 Hne.out.2 (by omega) (Nat.le_refl _) (by omega)
                  have hcv := hv1.cell
                  have hfv := hv1.frozen
                  have H11 := Lib.hid (And.intro hI11 (And.intro ho11 hk11))
                  clear hI11 ho11 hk11 hv1 hown hgr
                  refine hK _ _ ?_
                  clear hK K
                  try simp only [Act.put, List.setIfInBounds_toArray, List.set_cons_zero, List.set_cons_succ]
                  refine' free_sole ?_ ?_ (fun K hK => ?_)
                  rotate_left 1
                  · simp only [List.getElem?_toArray, List.getElem?_cons_zero, List.getElem?_cons_succ]; exact rfl
                  · exact rfl
                  unfold Oper.wp execOp
                  go_simp
                  refine hK _ _ ?_
                  clear hK K
                  try simp only [Act.put]
                  refine free_done ?_
                  exact ⟨rfl, _, H11.out⟩
                · refine' free_step ?_ ?_ (fun K hK => ?_)
                  rotate_left 1
                  · simp only [List.getElem?_toArray, List.getElem?_cons_zero, List.getElem?_cons_succ]; exact rfl
                  · exact rfl
                  unfold Oper.wp execOp
                  go_simp
                  refine hK _ _ ?_
                  clear hK K
                  refine free_fork ?_ ?_
                  · refine' free_step ?_ ?_ (fun K hK => ?_)
                    rotate_left 1
                    · simp only [List.getElem?_toArray, List.getElem?_cons_zero]; exact rfl
                    · exact rfl
                    unfold Oper.wp execOp
                    go_simp
                    refine hK _ _ ?_
                    clear hK K
                    refine' free_sole ?_ ?_ (fun K hK => ?_)
                    rotate_left 1
                    · simp only [List.getElem?_toArray, List.getElem?_cons_zero, List.getElem?_cons_succ]; exact rfl
                    · exact rfl
                    go_simp
                    refine (field_walk 6 s1 n1 a1 ls.length cap1 _).mono ?_
                    rintro e wc3 ⟨rfl, hb⟩
                    refine hK _ _ ?_
                    have HBe := Lib.hid (HBd.out.trans (hb.mono HBd.out.size))
                    obtain ⟨c7e, c5e, h7e⟩ := HF11.out _ HBe.out
                    have c7f := fun o : Obj => (HF11.out _ (HBe.out.alloc HBe.out.size o)).1
                    clear hb
                    clear hK K
                    try simp only [Act.put, List.setIfInBounds_toArray, List.set_cons_zero, List.set_cons_succ]
                    refine' free_sole ?_ ?_ (fun K hK => ?_)
                    rotate_left 1
                    · simp only [List.getElem?_toArray, List.getElem?_cons_zero, List.getElem?_cons_succ]; exact rfl
                    · exact rfl
                    unfold Oper.wp execOp
                    go_simp
                    refine hK _ _ ?_
                    clear hK K
                    refine' free_sole ?_ ?_ (fun K hK => ?_)
                    rotate_left 1
                    · simp only [List.getElem?_toArray, List.getElem?_cons_zero, List.getElem?_cons_succ]; exact rfl
                    · exact rfl
                    refine wp_append_int _ _ rfl w1.heap.size v acc.length (intCells acc) rfl ((H10.out.2.1.kept (below_grown HBe.out) (Decidable.em _)).alloc _) wc3.heap.size n1 rfl (by rw [cells_at (World.alloc_heap_new wc3 _)]; rfl) (by omega) (by have h1 := HBe.out.size; have h2 := H10.out.2.2.2.2.2.2.2.2; simp; omega) ?_
                    intro v' wa hown hgr
                    obtain ⟨g', cap', rfl⟩ := ownsRow_succ hown
                    obtain ⟨hv1, hI11, ho11, hk11⟩ := step11 H10.out HBe.out hown hgr (by omega) (by omega) Hne.out.1 Hne.out.2 (by omega) (Nat.le_refl _) (by omega)
                    have hcv := hv1.cell
                    have hfv := hv1.frozen
                    have H11 := Lib.hid (And.intro hI11 (And.intro ho11 hk11))
                    clear hI11 ho11 hk11 hv1 hown hgr
                    refine hK _ _ ?_
                    clear hK K
                    try simp only [Act.put, List.setIfInBounds_toArray, List.set_cons_zero, List.set_cons_succ]
                    refine' free_sole ?_ ?_ (fun K hK => ?_)
                    rotate_left 1
                    · simp only [List.getElem?_toArray, List.getElem?_cons_zero, List.getElem?_cons_succ]; exact rfl
                    · exact rfl
                    unfold Oper.wp execOp
                    go_simp
                    refine hK _ _ ?_
                    clear hK K
                    try simp only [Act.put]
                    refine free_done ?_
                    exact ⟨rfl, _, H11.out⟩
                  · refine' free_step ?_ ?_ (fun K hK => ?_)
                    rotate_left 1
                    · simp only [List.getElem?_toArray, List.getElem?_cons_zero, List.getElem?_cons_succ]; exact rfl
                    · exact rfl
                    go_simp
                    refine (field_walk 6 s1 n1 a1 ls.length cap1 _).mono ?_
                    rintro e wc3 ⟨rfl, hb⟩
                    refine hK _ _ ?_
                    have HBe := Lib.hid (HBd.out.trans (hb.mono HBd.out.size))
                    obtain ⟨c7e, c5e, h7e⟩ := HF11.out _ HBe.out
                    have c7f := fun o : Obj => (HF11.out _ (HBe.out.alloc HBe.out.size o)).1
                    clear hb
                    clear hK K
                    try simp only [Act.put, List.setIfInBounds_toArray, List.set_cons_zero, List.set_cons_succ]
                    refine free_fork ?_ ?_
                    · refine' free_step ?_ ?_ (fun K hK => ?_)
                      rotate_left 1
                      · simp only [List.getElem?_toArray, List.getElem?_cons_zero]; exact rfl
                      · exact rfl
                      unfold Oper.wp execOp
                      go_simp
                      refine hK _ _ ?_
                      clear hK K
                      refine' free_sole ?_ ?_ (fun K hK => ?_)
                      rotate_left 1
                      · simp only [List.getElem?_toArray, List.getElem?_cons_zero, List.getElem?_cons_succ]; exact rfl
                      · exact rfl
                      unfold Oper.wp execOp
                      go_simp
                      refine hK _ _ ?_
                      clear hK K
                      refine' free_sole ?_ ?_ (fun K hK => ?_)
                      rotate_left 1
                      · simp only [List.getElem?_toArray, List.getElem?_cons_zero, List.getElem?_cons_succ]; exact rfl
                      · exact rfl
                      refine wp_append_int _ _ rfl w1.heap.size v acc.length (intCells acc) rfl ((H10.out.2.1.kept (below_grown HBe.out) (Decidable.em _)).alloc _) wc3.heap.size n1 rfl (by rw [cells_at (World.alloc_heap_new wc3 _)]; rfl) (by omega) (by have h1 := HBe.out.size; have h2 := H10.out.2.2.2.2.2.2.2.2; simp; omega) ?_
                      intro v' wa hown hgr
                      obtain ⟨g', cap', rfl⟩ := ownsRow_succ hown
                      obtain ⟨hv1, hI11, ho11, hk11⟩ := step11 H10.out HBe.out hown hgr (by omega) (by omega) Hne.out.1 Hne.out.2 (by omega) (Nat.le_refl _) (by omega)
                      have hcv := hv1.cell
                      have hfv := hv1.frozen
                      have H11 := Lib.hid (And.intro hI11 (And.intro ho11 hk11))
                      clear hI11 ho11 hk11 hv1 hown hgr
                      refine hK _ _ ?_
                      clear hK K
                      try simp only [Act.put, List.setIfInBounds_toArray, List.set_cons_zero, List.set_cons_succ]
                      refine' free_sole ?_ ?_ (fun K hK => ?_)
                      rotate_left 1
                      · simp only [List.getElem?_toArray, List.getElem?_cons_zero, List.getElem?_cons_succ]; exact rfl
                      · exact rfl
                      unfold Oper.wp execOp
                      go_simp
                      refine hK _ _ ?_
                      clear hK K
                      try simp only [Act.put]
                      refine free_done ?_
                      exact ⟨rfl, _, H11.out⟩
                    · refine' free_step ?_ ?_ (fun K hK => ?_)
                      rotate_left 1
                      · simp only [List.getElem?_toArray, List.getElem?_cons_zero, List.getElem?_cons_succ]; exact rfl
                      · exact rfl
                      unfold Oper.wp execOp
                      go_simp
                      refine hK _ _ ?_
                      clear hK K
                      refine' free_sole ?_ ?_ (fun K hK => ?_)
                      rotate_left 1
                      · simp only [List.getElem?_toArray, List.getElem?_cons_zero]; exact rfl
                      · exact rfl
                      unfold Oper.wp execOp
                      go_simp
                      refine hK _ _ ?_
                      clear hK K
                      refine' free_sole ?_ ?_ (fun K hK => ?_)
                      rotate_left 1
                      · simp only [List.getElem?_toArray, List.getElem?_cons_zero, List.getElem?_cons_succ]; exact rfl
                      · exact rfl
                      refine wp_append_int _ _ rfl w1.heap.size v acc.length (intCells acc) rfl ((H10.out.2.1.kept (below_grown HBe.out) (Decidable.em _)).alloc _) wc3.heap.size n1 rfl (by rw [cells_at (World.alloc_heap_new wc3 _)]; rfl) (by omega) (by have h1 := HBe.out.size; have h2 := H10.out.2.2.2.2.2.2.2.2; simp; omega) ?_
                      intro v' wa hown hgr
                      obtain ⟨g', cap', rfl⟩ := ownsRow_succ hown
                      obtain ⟨hv1, hI11, ho11, hk11⟩ := step11 H10.out HBe.out hown hgr (by omega) (by omega) Hne.out.1 Hne.out.2 (by omega) (Nat.le_refl _) (by omega)
                      have hcv := hv1.cell
                      have hfv := hv1.frozen
                      have H11 := Lib.hid (And.intro hI11 (And.intro ho11 hk11))
                      clear hI11 ho11 hk11 hv1 hown hgr
                      refine hK _ _ ?_
                      clear hK K
                      try simp only [Act.put, List.setIfInBounds_toArray, List.set_cons_zero, List.set_cons_succ]
                      refine' free_sole ?_ ?_ (fun K hK => ?_)
                      rotate_left 1
                      · simp only [List.getElem?_toArray, List.getElem?_cons_zero, List.getElem?_cons_succ]; exact rfl
                      · exact rfl
                      unfold Oper.wp execOp
                      go_simp
                      refine hK _ _ ?_
                      clear hK K
                      try simp only [Act.put]
                      refine free_done ?_
                      exact ⟨rfl, _, H11.out⟩
            case fin =>
              rintro e ax wf ⟨rfl, v', h11⟩
              have H11 := Lib.hid h11
              clear h11
              gi_wp2
              refine ⟨⟨H11.out.2.2, H11.out.2.1⟩, v', D.put (keyI n1) (.agg []), ?_⟩
              rw [Hacc.out _ rfl, if_pos trivial]
              have hmore := HD.out.more Hn1f.out hin (.agg [])
              have hadd : addI acc n1 = acc ++ [n1] := by unfold addI; rw [if_neg hin]
              rw [hadd] at hmore ⊢
              exact ⟨H11.out.1, hmore⟩
  case done =>
    rintro E ys W hE hS ⟨v, D, hF, hD⟩ hk
    have hA : accG (nds ys) [] = A := by rw [HA.out, show nds ys = x.pre.take 100000 from hS]
    rw [hA] at hF
    have hrow := hF.2.1
    obtain ⟨a', cap', rfl⟩ : ∃ a' cap', v = .slice a' A.length cap' := by
      rcases hrow.2 with ⟨rfl, h0⟩ | ⟨g, cap', cur, rfl, _⟩
      · exact ⟨none, 0, by rw [h0]⟩
      · exact ⟨_, _, rfl⟩
    have hcS := hF.1.cell
    have HF := Lib.hid hF
    have Hrow := Lib.hid hrow
    clear hF hD hA hS hrow hmm hheld hvS hvM hmap0
    gi_wp2
    refine ⟨by simp, .inl ⟨_, _, rfl, run_takeDeferred hk, ?_⟩⟩
    have hrow2 := owns_base_int (ownsRow_putObj Hrow.out (.deferred none) hk rfl) (B' := w.heap.size) (by have := Hs1.out; omega)
    refine ⟨_, results_tmp rfl _ _ _, a', cap', rfl, hrow2, (hb0.trans (HF.out.2.2.2.2.mono (by have := Hs1.out; omega))).trans (belowK_b (w := w) (Nat.le_refl _) W E _ _ (by have := Hs1.out; omega) hk rfl rfl)⟩
  case stop =>
    rintro E c ys W hE hS h hk
    exact h.elim

theorem accG_keep : ∀ (l : List Cr) (acc : List Int) (t : Int), t ∈ acc → t ∈ accG l acc
  | [], _, _, h => h
  | .mk k _ n _ :: l, acc, t, h => by
    rw [accG]
    refine accG_keep l _ t ?_
    split
    · unfold addI
      split
      · exact h
      · exact List.mem_append_left _ h
    · exact h
theorem accG_has : ∀ (l : List Cr) (acc : List Int) (t : Int) (s : BitVec 256) (ls : List Cr), Cr.mk 6 s t ls ∈ l → t ∈ accG l acc
  | [], _, _, _, _, h => by cases h
  | .mk k s n l' :: l, acc, t, s', ls, h => by
    rw [accG]
    rcases List.mem_cons.1 h with h | h
    · injection h with h1 h2 h3 h4
      subst h1 h3
      rw [if_pos rfl]
      refine accG_keep l _ _ ?_
      unfold addI
      split
      · assumption
      · exact List.mem_append_right _ (List.mem_singleton.2 rfl)
    · exact accG_has l _ t s' ls h
theorem accG_nodup : ∀ (l : List Cr) (acc : List Int), acc.Nodup → (accG l acc).Nodup
  | [], acc, h => h
  | .mk k s n ls :: l, acc, h => by
    refine accG_nodup l _ ?_
    split
    · unfold addI
      split
      · exact h
      · rename_i hs
        rw [List.nodup_append]
        exact ⟨h, by simp, fun a ha b hb => by rw [List.mem_singleton] at hb; rintro rfl; exact hs (hb ▸ ha)⟩
    · exact h
theorem accG_mem : ∀ (l : List Cr) (acc : List Int) (t : Int), t ∈ accG l acc → t ∈ acc ∨ ∃ s ls, Cr.mk 6 s t ls ∈ l
  | [], acc, t, h => .inl h
  | .mk k s n ls :: l, acc, t, h => by
    rcases accG_mem l _ t h with h1 | ⟨s', ls', h1⟩
    · split at h1
      · rename_i hk
        unfold addI at h1
        split at h1
        · exact .inl h1
        · rcases List.mem_append.1 h1 with h2 | h2
          · exact .inl h2
          · rw [List.mem_singleton] at h2
            subst h2 hk
            exact .inr ⟨s, ls, by simp⟩
      · exact .inl h1
    · exact .inr ⟨s', ls', by simp [h1]⟩
theorem groups_walk {x : Cr} {cs : List Value} {w : World} (hat : Cr.at w x cs) (hg : goodC x = true) :
    Calls Tryd.prog 35 #[.agg cs.toArray] w fun e w' => ∃ a cap, e = .returned (.slice a (groupsC x).length cap) ∧ w'.ownsRow w.heap.size 3 1 (.slice a (groupsC x).length cap) (groupsC x).length (intCells (groupsC x)) ∧ Below w.heap.size w w' := by
  obtain ⟨k, s, n, a, len, cap, rfl⟩ := at_lit hat
  obtain ⟨W, hW⟩ : ∃ W, W = w.alloc (.cells #[.int .i64 k, .int .u64 (word s 0), .int .u64 (word s 1), .int .u64 (word s 2), .int .u64 (word s 3), .int .i64 n, .slice a len cap] 28) := ⟨_, rfl⟩
  have hal : Below w.heap.size w W := by rw [hW]; exact alloc_below w _
  have h7 : Core7 W w.heap.size 0 [.int .i64 k, .int .u64 (word s 0), .int .u64 (word s 1), .int .u64 (word s 2), .int .u64 (word s 3), .int .i64 n, .slice a len cap] := by rw [hW]; exact core7_in (World.alloc_heap_new w _) rfl
  have hf := firsts_walk (Cr.at_below hal (Nat.le_refl _) _ _ hat) hg
  have Hf := Lib.hid hf
  have Hal := Lib.hid hal
  generalize groupsC x = L at *
  clear hf hal hat
  go_enter Tryd.func35, Tryd.ntmps35
  go_upto_region 1 with fail
  rw [← hW]
  clear hW
  go_wp2_with (first | (refine wpList_load_core rfl _ rfl w.heap.size 0 _ rfl h7 ?_))
  refine Hf.out.mono ?_
  rintro e w1 ⟨a1, cap1, rfl, hown, hb⟩
  have H1 := Lib.hid (And.intro hown hb)
  clear hown hb
  go_wp2_with fail
  go_ret
  exact ⟨a1, cap1, rfl, owns_base_int H1.out.1 Hal.out.size, Hal.out.trans (H1.out.2.mono Hal.out.size)⟩
end K
end Go.Proofs.YtonhmjfopidacaaDoor
