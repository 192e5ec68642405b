/- RefArr, RefQuiet, RefEq, RefMem, as one. -/
import Derived.Test.YtonhmjfopidacaaDoorSetAll
import Derived.Laws.Rows
import Derived.Test.YtonhmjfopidacaaDoorLater
import Derived.Test.YtonhmjfopidacaaDoorEq
import Derived.Test.YtonhmjfopidacaaDoorBlockMem
namespace Go.Proofs.YtonhmjfopidacaaDoor
set_option maxRecDepth 100000
open Go.RowKit

/-- the cells of an array of 256 bools -/
def bc (f : Nat → Bool) : Array Value := ((List.range 256).map fun i => Value.bool (f i)).toArray
/-- the array as the program holds it -/
abbrev BV (f : Nat → Bool) : Value := .agg (bc f)
/-- block b holds the array -/
def BAt (w : World) (b : Nat) (f : Nat → Bool) : Prop := w.heap[b]? = some (.cells (bc f) 54 (0, 0))
theorem bc_size (f : Nat → Bool) : (bc f).size = 256 := by simp [bc]
theorem bc_get (f : Nat → Bool) (j : Nat) (h : j < 256) : (bc f)[j]? = some (.bool (f j)) := by
  simp [bc, List.getElem?_map, List.getElem?_range h]
theorem bc_ext (f g : Nat → Bool) (h : ∀ j, j < 256 → f j = g j) : bc f = bc g := by
  unfold bc
  congr 1
  apply List.map_congr_left
  intro j hj
  rw [h j (List.mem_range.1 hj)]
theorem BV_ext {f g : Nat → Bool} (h : ∀ j, j < 256 → f j = g j) : BV f = BV g := by unfold BV; rw [bc_ext f g h]
theorem bc_set (f : Nat → Bool) (j : Nat) (v : Bool) (h : j < 256) : (bc f).setIfInBounds j (.bool v) = bc (fun i => if i = j then v else f i) := by
  apply Array.ext_getElem?
  intro i
  rw [Array.getElem?_setIfInBounds]
  by_cases hi : i < 256
  · rw [bc_get _ i hi, bc_get _ i hi]
    by_cases hij : j = i
    · subst hij; simp [bc_size, h]
    · rw [if_neg hij, if_neg (fun e => hij e.symm)]
  · have h1 : (bc f)[i]? = none := Array.getElem?_eq_none (by rw [bc_size]; omega)
    have h2 : (bc fun i => if i = j then v else f i)[i]? = none := Array.getElem?_eq_none (by rw [bc_size]; omega)
    rw [h1, h2, if_neg (by omega)]
theorem bc_one (f : Nat → Bool) : (bc f).all (·.oneCell') = true := by
  rw [Array.all_eq_true_iff_forall_mem]
  intro v hv
  simp [bc] at hv
  obtain ⟨i, _, rfl⟩ := hv
  rfl
theorem BAt.cell {w : World} {b : Nat} {f : Nat → Bool} (h : BAt w b f) (j : Nat) (hj : j < 256) : w.cell? ⟨b, j, none⟩ = some (.bool (f j)) := by
  unfold BAt at h
  rw [cell_of_row w b j _ _ _ h, bc_get f j hj]
theorem BAt.free {w : World} {b : Nat} {f : Nat → Bool} (h : BAt w b f) (j : Nat) : w.frozen? ⟨b, j, none⟩ = false := frozen_of_row w b j _ _ h
theorem BAt.set {w : World} {b : Nat} {f : Nat → Bool} (h : BAt w b f) (j : Nat) (hj : j < 256) (v : Bool) : BAt (w.setCell ⟨b, j, none⟩ (.bool v)) b (fun i => if i = j then v else f i) := by
  unfold BAt at *
  rw [heap_setCell_same w b j _ _ _ h, bc_set f j v hj]
theorem BAt.other {w : World} {b : Nat} {f : Nat → Bool} (h : BAt w b f) (a : Addr) (u : Value) (ha : a.block ≠ b) : BAt (w.setCell a u) b f := by
  unfold BAt at *
  rw [heap_setCell_other w a b u (fun e => ha e.symm)]; exact h
theorem BAt.row {w : World} {b : Nat} {f : Nat → Bool} (h : BAt w b f) (g : Nat) (cs : Array Value) (hg : b ≠ g) : BAt (w.setRow g cs) b f := by
  unfold BAt at *
  rw [setRow_other w g b cs hg]; exact h
theorem BAt.rowSame {w : World} {b : Nat} {f g : Nat → Bool} (h : BAt w b f) : BAt (w.setRow b (bc g)) b g := setRow_heap w b _ _ _ _ h
theorem BAt.drew {w : World} {b : Nat} {f : Nat → Bool} (h : BAt w b f) : BAt w.drew b f := h
theorem BAt.lt {w : World} {b : Nat} {f : Nat → Bool} (h : BAt w b f) : b < w.heap.size := lt_of_block h
theorem BAt.alloc {w : World} {b : Nat} {f : Nat → Bool} (h : BAt w b f) (o : Obj) : BAt (w.alloc o) b f := by
  have hl := h.lt
  unfold BAt at *
  rw [heap_alloc_old w o hl]; exact h
theorem BAt.ext {w : World} {b : Nat} {f g : Nat → Bool} (h : BAt w b f) (e : ∀ j, j < 256 → f j = g j) : BAt w b g := by
  unfold BAt at *
  rw [← bc_ext f g e]; exact h
theorem BAt.below {B : Nat} {w w' : World} {b : Nat} {f : Nat → Bool} (h : BAt w b f) (hb : Below B w w') (hlt : b < B) : BAt w' b f := by
  unfold BAt at *
  rw [hb.block b hlt]; exact h
theorem BAt.start (w : World) (O : Obj) (f : Nat → Bool) (hO : O = .cells (bc f) 54 (0, 0)) (g : Nat) (hg : g = w.heap.size) : BAt (w.alloc O) g f := by
  subst hO hg
  exact heap_alloc_new w _
theorem infoRef : (Tryd.prog.info? 54).map (·.size) = some 256 := by kernel_rfl
theorem infoRef' (f : Nat → Bool) : (Tryd.prog.info? 54).map (·.size) = some (bc f).size := by rw [bc_size]; exact infoRef
theorem below_row {B g : Nat} {a w : World} (h : Below B a w) (hB : B ≤ g) (cs : Array Value) : Below B a (w.setRow g cs) :=
  h.trans ⟨rfl, rfl, rfl, by simp, fun k hk => setRow_other w g k cs (by omega)⟩
def bNone : Nat → Bool := fun _ => false
theorem zeroRef (w : World) : (zeroValue 54).run Tryd.prog w = .ok (.agg (bc bNone)) w := by kernel_rfl
theorem loadRef {w : World} {g : Nat} {f : Nat → Bool} (h : BAt w g f) : (loadVar 54 ⟨g, 0, none⟩).run Tryd.prog w = .ok (.agg (bc f)) w :=
  run_loadVar_row w g _ _ (bc f) (0, 0) _ h Tryd.underlying54 rfl (infoRef' f)
theorem storeRef {w : World} {g : Nat} {f : Nat → Bool} (h : BAt w g f) (f' : Nat → Bool) : (storeVar 54 ⟨g, 0, none⟩ (.agg (bc f'))).run Tryd.prog w = .ok () (w.setRow g (bc f')) :=
  run_storeVar_row w g _ _ (bc f) (bc f') h (infoRef' f') (by rw [bc_size, bc_size]) (bc_one f')
/-- what the builders' loops hold: the result's block is untouched, the next one holds what was gathered -/
def Arr (w wr : World) (f : Nat → Bool) : Prop := BAt wr w.heap.size bNone ∧ BAt wr (w.heap.size + 1) f ∧ Below w.heap.size w wr
theorem arr_start (w : World) : Arr w ((w.alloc (.cells (bc bNone) 54)).alloc (.cells (bc bNone) 54)) bNone :=
  ⟨(BAt.start w _ _ rfl _ rfl).alloc _, BAt.start _ _ _ rfl _ (by simp), ((Below.refl _ _).alloc (Nat.le_refl _) _).alloc (by simp) _⟩
theorem arr_set {w wr : World} {f : Nat → Bool} (h : Arr w wr f) (j : Nat) (hj : j < 256) (v : Bool) : Arr w (wr.setCell ⟨w.heap.size + 1, j, none⟩ (.bool v)) (fun i => if i = j then v else f i) :=
  ⟨h.1.other _ _ (by simp), h.2.1.set j hj v, h.2.2.setCell (by simp) _⟩
theorem arr_ext {w wr : World} {f g : Nat → Bool} (h : Arr w wr f) (e : ∀ j, j < 256 → f j = g j) : Arr w wr g := ⟨h.1, h.2.1.ext e, h.2.2⟩
/-- what the loop of Or holds -/
def InOr (w wr : World) (f g : Nat → Bool) (k : Nat) : Prop :=
  BAt wr w.heap.size (fun j => if j < k then (f j || g j) else f j) ∧ BAt wr (w.heap.size + 1) g ∧ BAt wr (w.heap.size + 1 + 1) bNone ∧ Below w.heap.size w wr
theorem inOr_start (w : World) (f g : Nat → Bool) : InOr w (((w.alloc (.cells (bc f) 54)).alloc (.cells (bc g) 54)).alloc (.cells (bc bNone) 54)) f g 0 :=
  ⟨(((BAt.start w _ f rfl _ rfl).alloc _).alloc _).ext (fun j _ => by simp), (BAt.start _ _ g rfl _ (by simp)).alloc _, BAt.start _ _ _ rfl _ (by simp), (((Below.refl _ _).alloc (Nat.le_refl _) _).alloc (by simp) _).alloc (by simp; omega) _⟩
theorem inOr_step {w wr : World} {f g : Nat → Bool} {k : Nat} (hk : k < 256) (h : InOr w wr f g k) (v : Bool) (hv : v = (f k || g k)) : InOr w (wr.setCell ⟨w.heap.size, k, none⟩ (.bool v)) f g (k + 1) :=
  ⟨(h.1.set k hk v).ext (fun j _ => by
    by_cases hj : j = k
    · subst hj; simp [hv]
    · rw [if_neg hj]; by_cases h1 : j < k
      · rw [if_pos h1, if_pos (by omega)]
      · rw [if_neg h1, if_neg (by omega)]), h.2.1.other _ _ (by simp), h.2.2.1.other _ _ (by simp; try omega), h.2.2.2.setCell (Nat.le_refl _) _⟩
/-- what the loop of And holds -/
def InAnd (w wr : World) (f g : Nat → Bool) (k : Nat) : Prop :=
  BAt wr w.heap.size (fun j => if j < k then (f j && g j) else f j) ∧ BAt wr (w.heap.size + 1) g ∧ BAt wr (w.heap.size + 1 + 1) bNone ∧ Below w.heap.size w wr
theorem inAnd_start (w : World) (f g : Nat → Bool) : InAnd w (((w.alloc (.cells (bc f) 54)).alloc (.cells (bc g) 54)).alloc (.cells (bc bNone) 54)) f g 0 :=
  ⟨(((BAt.start w _ f rfl _ rfl).alloc _).alloc _).ext (fun j _ => by simp), (BAt.start _ _ g rfl _ (by simp)).alloc _, BAt.start _ _ _ rfl _ (by simp), (((Below.refl _ _).alloc (Nat.le_refl _) _).alloc (by simp) _).alloc (by simp; omega) _⟩
theorem inAnd_step {w wr : World} {f g : Nat → Bool} {k : Nat} (hk : k < 256) (h : InAnd w wr f g k) (v : Bool) (hv : v = (f k && g k)) : InAnd w (wr.setCell ⟨w.heap.size, k, none⟩ (.bool v)) f g (k + 1) :=
  ⟨(h.1.set k hk v).ext (fun j _ => by
    by_cases hj : j = k
    · subst hj; simp [hv]
    · rw [if_neg hj]; by_cases h1 : j < k
      · rw [if_pos h1, if_pos (by omega)]
      · rw [if_neg h1, if_neg (by omega)]), h.2.1.other _ _ (by simp), h.2.2.1.other _ _ (by simp; try omega), h.2.2.2.setCell (Nat.le_refl _) _⟩
/-- what the loop of Not holds -/
def InNot (w wr : World) (f : Nat → Bool) (k : Nat) : Prop :=
  BAt wr w.heap.size (fun j => if j < k then !f j else f j) ∧ BAt wr (w.heap.size + 1) bNone ∧ Below w.heap.size w wr
theorem inNot_start (w : World) (f : Nat → Bool) : InNot w ((w.alloc (.cells (bc f) 54)).alloc (.cells (bc bNone) 54)) f 0 :=
  ⟨((BAt.start w _ f rfl _ rfl).alloc _).ext (fun j _ => by simp), BAt.start _ _ _ rfl _ (by simp), ((Below.refl _ _).alloc (Nat.le_refl _) _).alloc (by simp) _⟩
theorem inNot_step {w wr : World} {f : Nat → Bool} {k : Nat} (hk : k < 256) (h : InNot w wr f k) : InNot w (wr.setCell ⟨w.heap.size, k, none⟩ (.bool (!f k))) f (k + 1) :=
  ⟨(h.1.set k hk _).ext (fun j _ => by
    by_cases hj : j = k
    · subst hj; simp
    · rw [if_neg hj]; by_cases h1 : j < k
      · rw [if_pos h1, if_pos (by omega)]
      · rw [if_neg h1, if_neg (by omega)]), h.2.1.other _ _ (by simp), h.2.2.setCell (Nat.le_refl _) _⟩
/-- what the loop of From holds -/
def InFrom (w wr : World) (s : BitVec 256) (k : Nat) : Prop :=
  (∀ q, q < 4 → wr.cell? ⟨w.heap.size, q, none⟩ = some (.int .u64 (word s q))) ∧ BAt wr (w.heap.size + 1) bNone ∧ BAt wr (w.heap.size + 1 + 1) (fun j => decide (j < k) && s.getLsbD j) ∧ Below w.heap.size w wr
theorem inFrom_start (w : World) (s : BitVec 256) (t : TypeId) : InFrom w (((w.alloc (.cells #[.int .u64 (word s 0), .int .u64 (word s 1), .int .u64 (word s 2), .int .u64 (word s 3)] t)).alloc (.cells (bc bNone) 54)).alloc (.cells (bc bNone) 54)) s 0 :=
  ⟨fun q hq => by
    have h4 : q = 0 ∨ q = 1 ∨ q = 2 ∨ q = 3 := by omega
    rw [World.cell?_alloc_past _ _ _ (by simp; omega), World.cell?_alloc_past _ _ _ (by simp), World.cell?_alloc_at _ _ _ _ rfl]
    rcases h4 with rfl | rfl | rfl | rfl <;> rfl, (BAt.start _ _ _ rfl _ (by simp)).alloc _, (BAt.start _ _ _ rfl _ (by simp)).ext (fun j _ => by simp [bNone]), (((Below.refl _ _).alloc (Nat.le_refl _) _).alloc (by simp) _).alloc (by simp; omega) _⟩
theorem inFrom_step {w wr : World} {s : BitVec 256} {k : Nat} (hk : k < 256) (h : InFrom w wr s k) : InFrom w (wr.setCell ⟨w.heap.size + 1 + 1, k, none⟩ (.bool (s.getLsbD k))) s (k + 1) :=
  ⟨fun q hq => by
    have : (wr.setCell ⟨w.heap.size + 1 + 1, k, none⟩ (.bool (s.getLsbD k))).cell? ⟨w.heap.size, q, none⟩ = wr.cell? ⟨w.heap.size, q, none⟩ := World.cell?_of_block (w := wr) (heap_setCell_other wr _ _ _ (by simp; omega))
    rw [this]; exact h.1 q hq, h.2.1.other _ _ (by simp), (h.2.2.1.set k hk _).ext (fun j _ => by
    by_cases hj : j = k
    · subst hj; simp
    · rw [if_neg hj]; congr 1; rw [decide_eq_decide]; omega), h.2.2.2.setCell (by simp; omega) _⟩
set_option maxHeartbeats 2000000 in
theorem from_any (s : BitVec 256) (w : World) :
    Calls Tryd.prog 62 #[SV s] w fun e w' => e = .returned (BV s.getLsbD) ∧ Below w.heap.size w w' := by
  have hz := zeroRef
  go_enter Tryd.func62, Tryd.ntmps62
  go_wp2
  go_loopw [4] (fun i wr => ∃ k : Nat, k ≤ 256 ∧ i = .int .i64 k ∧ InFrom w wr s k) (fun i _ => 256 - (intOf i).toNat)
  case atStart => exact ⟨0, by omega, rfl, inFrom_start w s _⟩
  case round =>
    obtain ⟨k, hk, rfl, hg⟩ := hrel
    by_cases hkl : k < 256
    · have hd : decide ((k : Int) < 256) = true := by simp; omega
      have hq : k / 64 < 4 := by omega
      have hc := hg.1 (k / 64) hq
      have hcc := hg.2.2.1.cell k hkl
      have hf := hg.2.2.1.free k
      have hw := Lib.hid (has_word s k _ rfl)
      have hst := Lib.hid (inFrom_step hkl hg)
      clear hg
      go_wp2
      rw [hw.out]
      refine ⟨⟨k + 1, by omega, by go_num, hst.out⟩, ?_⟩
      simp [intOf]; omega
    · have hd : decide ((k : Int) < 256) = false := by simp; omega
      obtain rfl : k = 256 := by omega
      have hg1 := hg.2.2.1
      have hg2 := hg.2.1
      have hg3 := hg.2.2.2
      clear hz hg
      go_wp2_with (first
        | (refine wpList_load_row rfl 54 _ rfl (w.heap.size + 1 + 1) rfl _ _ _ _ hg1 Tryd.underlying54 rfl (infoRef' _) ?_)
        | (refine wpList_store_row rfl 54 _ _ rfl (w.heap.size + 1) _ rfl rfl _ _ hg2 (infoRef' _) (by rw [bc_size, bc_size]) (bc_one _) ?_))
      refine bodyPost_ret (v := BV fun j => decide (j < 256) && s.getLsbD j) (results_cell_row Tryd.results62 _ _ (w.heap.size + 1) _ _ _ _ rfl (BAt.rowSame hg2) Tryd.underlying54 rfl (infoRef' _)) rfl ⟨?_, below_row hg3 (by omega) _⟩
      exact congrArg Ending.returned (BV_ext fun j hj => by show (decide (j < 256) && s.getLsbD j) = s.getLsbD j; simp [hj])
/-- what the loop of Of holds -/
def InOf (w wr : World) (l : List Nat) (k : Nat) : Prop :=
  BAt wr w.heap.size bNone ∧ BAt wr (w.heap.size + 1) (fun j => decide (j ∈ l.take k)) ∧ Below w.heap.size w wr
theorem inOf_start (w : World) (l : List Nat) : InOf w ((w.alloc (.cells (bc bNone) 54)).alloc (.cells (bc bNone) 54)) l 0 :=
  ⟨(BAt.start w _ _ rfl _ rfl).alloc _, (BAt.start _ _ _ rfl _ (by simp)).ext (fun j _ => by simp [bNone]), ((Below.refl _ _).alloc (Nat.le_refl _) _).alloc (by simp) _⟩
theorem inOf_step {w wr : World} {l : List Nat} {k : Nat} (hk : k < l.length) (hx : l[k] < 256) (h : InOf w wr l k) : InOf w (wr.setCell ⟨w.heap.size + 1, l[k], none⟩ (.bool true)) l (k + 1) :=
  ⟨h.1.other _ _ (by simp), (h.2.1.set _ hx _).ext (fun j _ => by
    have e : (j ∈ l.take (k + 1)) ↔ (j ∈ l.take k ∨ j = l[k]) := by rw [List.take_succ_eq_append_getElem hk, List.mem_append, List.mem_singleton]
    show (if j = l[k] then true else decide (j ∈ l.take k)) = decide (j ∈ l.take (k + 1))
    by_cases hj : j = l[k]
    · rw [if_pos hj]; exact (decide_eq_true (e.2 (.inr hj))).symm
    · rw [if_neg hj, decide_eq_decide, e]; exact ⟨.inl, fun h => h.resolve_right hj⟩), h.2.2.setCell (by simp) _⟩
end Go.Proofs.YtonhmjfopidacaaDoor
namespace Go.Proofs.YtonhmjfopidacaaDoor
set_option maxRecDepth 100000
open Go.RowKit

abbrev ZR : Obj := .cells (bc bNone) 54
theorem quiet_load_ref {o : Oper} {a : Act} {C : World → Prop} {K : Act → Prop} (x : Operand) (ho : o.op = .load 54 x) (g : Nat) (hx : a.eval x = .pointer (some ⟨g, 0, none⟩)) (f : Nat → Bool)
    (h : ∀ w, C w → BAt w g f) (hK : K (a.put o.dst (BV f))) : o.quiet Tryd.prog a C K :=
  ⟨BV f, fun w hw => by
    unfold Oper.quietAt execOp
    simp only [ho, hx, Instr.loadAt, Instr.sureAddr, Sem.run_bind, Sem.run_pure, Result.andThen_ok, loadRef (h w hw)]
    exact ⟨rfl, rfl⟩, hK⟩
theorem store_new {w : World} {F : Nat → Bool} {ops : Array Oper} {rest : List Oper} {Q : Exit → Act → World → Prop} {o : Oper} {a : Act} {x y : Operand} (wX : World) (hX : wX = (w.alloc ZR).setRow w.heap.size (bc F)) (h1 : o.guard = none) (h2 : o.op = .store 54 x y)
    (h3 : a.eval x = .pointer (some ⟨w.heap.size, 0, none⟩)) (h4 : a.eval y = .agg (bc F)) (h5 : wpList Tryd.prog ops Q rest (a.put o.dst undef) wX) : wpList Tryd.prog ops Q (o :: rest) a (w.alloc ZR) := by
  subst hX
  exact wpList_store_row h1 _ _ _ h2 w.heap.size _ h3 h4 _ _ (BAt.start w ZR _ rfl _ rfl) (infoRef' _) (by rw [bc_size, bc_size]) (bc_one _) h5
theorem new_facts {w : World} {F : Nat → Bool} (wX : World) (hX : wX = (w.alloc ZR).setRow w.heap.size (bc F)) : BAt wX w.heap.size F ∧ Below w.heap.size w wX ∧ wX.heap.size = w.heap.size + 1 := by
  subst hX
  exact ⟨BAt.rowSame (BAt.start w ZR _ rfl _ rfl), below_row ((Below.refl _ _).alloc (Nat.le_refl _) _) (Nat.le_refl _) _, by simp⟩
end Go.Proofs.YtonhmjfopidacaaDoor
namespace Go.Proofs.YtonhmjfopidacaaDoor
set_option maxRecDepth 100000
open Go.RowKit
theorem info_bool : (Tryd.prog.info? 4).map (fun i => (i.zero, i.size, i.bytes)) = some (some (.bool false), 1, 1) := by kernel_rfl
theorem agg_bool (w : World) : (isAgg 4).run Tryd.prog w = .ok false w := by kernel_rfl
theorem eql_ref (f g : Nat → Bool) (w : World) : (Op.equalIn 10000 54 (BV f) (BV g)).run Tryd.prog w = .ok ((List.range 256).all fun i => f i == g i) w := by
  obtain ⟨i0, hi, hz0, hz1, hz2⟩ := info_parts info_bool
  have hc : Tryd.prog.cellsOf 4 = 1 := by kernel_rfl
  rw [show (10000 : Nat) = 9999 + 1 from rfl, run_equalIn_array w 9999 _ _ Tryd.underlying54 hi, hc]
  exact run_eqItems (agg_bool w) (fun i => .bool (f i)) (fun i => .bool (g i)) (fun i => f i == g i) (List.range 256) (fun i hi => bc_get f i (List.mem_range.1 hi)) (fun i hi => bc_get g i (List.mem_range.1 hi)) (fun _ _ => run_equalIn_bool _ 9998 _ _ _ Tryd.underlying4)
end Go.Proofs.YtonhmjfopidacaaDoor
namespace Go.Proofs.YtonhmjfopidacaaDoor
set_option maxRecDepth 100000
open Go.RowKit

/-- at b, off lie the 256 cells of f -/
def Ref256 (w : World) (b off : Nat) (f : Nat → Bool) : Prop := ∀ c, c < 256 → w.cell? ⟨b, off + c, none⟩ = some (.bool (f c))
theorem loadRefAt {w : World} {b off : Nat} {f : Nat → Bool} (h : Ref256 w b off f) : (loadVar 54 ⟨b, off, none⟩).run Tryd.prog w = .ok (.agg (bc f)) w := by
  have hl := run_loadCells_list (P := Tryd.prog) w ⟨b, off, none⟩ (bc f).toList (fun j v hv => by
    rw [addr_at]
    have hj : j < 256 := by
      have := (List.getElem?_eq_some_iff.1 hv).1
      rwa [Array.length_toList, bc_size] at this
    rw [h j hj, ← bc_get f j hj, ← Array.getElem?_toList]; exact hv)
  have hi := infoRef
  cases hq : Tryd.prog.info? 54 with
  | none => simp [hq] at hi
  | some i =>
    have hs : i.size = 256 := by simpa [hq] using hi
    have hagg : (isAgg 54).run Tryd.prog w = .ok true w := by
      unfold isAgg
      rw [Sem.run_bind, run_underlying Tryd.underlying54 w]
      rfl
    rw [Array.length_toList, bc_size] at hl
    simp only [Array.toArray_toList] at hl
    simp [loadVar, Sem.run_bind, hagg, sizeOf, typeInfo, hq, hs, hl]
theorem wpList_load_refAt {ops : Array Oper} {rest : List Oper} {o : Oper} {a : Act} {w : World} {Q : Exit → Act → World → Prop} (hgd : o.guard = none) (x : Operand) (ho : o.op = .load 54 x)
    (b off : Nat) (f : Nat → Bool) (hx : a.eval x = .pointer (some ⟨b, off, none⟩)) (hc : Ref256 w b off f)
    (h : wpList Tryd.prog ops Q rest (a.put o.dst (BV f)) w) : wpList Tryd.prog ops Q (o :: rest) a w :=
  wpList_plain hgd fun _ hK => by
    unfold Oper.wp execOp
    simp only [ho, hx, Instr.loadAt, Instr.sureAddr, Sem.run_bind, Sem.run_pure, Result.andThen_ok, loadRefAt hc]
    exact hK _ _ h
theorem wpList_load_refAt_want {ops : Array Oper} {rest : List Oper} {o : Oper} {a : Act} {w : World} {Q : Exit → Act → World → Prop} (hw : Region.wanted o (yielded ops a.tmps) = true) (x : Operand) (ho : o.op = .load 54 x)
    (b off : Nat) (f : Nat → Bool) (hx : a.eval x = .pointer (some ⟨b, off, none⟩)) (hc : Ref256 w b off f)
    (h : wpList Tryd.prog ops Q rest (a.put o.dst (BV f)) w) : wpList Tryd.prog ops Q (o :: rest) a w :=
  BigFrame.wpList_want hw fun _ hK => by
    unfold Oper.wp execOp
    simp only [ho, hx, Instr.loadAt, Instr.sureAddr, Sem.run_bind, Sem.run_pure, Result.andThen_ok, loadRefAt hc]
    exact hK _ _ h
theorem quiet_load_refAt {o : Oper} {a : Act} {C : World → Prop} {K : Act → Prop} (x : Operand) (ho : o.op = .load 54 x) (b off : Nat) (f : Nat → Bool) (hx : a.eval x = .pointer (some ⟨b, off, none⟩))
    (h : ∀ w, C w → Ref256 w b off f) (hK : K (a.put o.dst (BV f))) : o.quiet Tryd.prog a C K :=
  ⟨BV f, fun w hw => by
    unfold Oper.quietAt execOp
    simp only [ho, hx, Instr.loadAt, Instr.sureAddr, Sem.run_bind, Sem.run_pure, Result.andThen_ok, loadRefAt (h w hw)]
    exact ⟨rfl, rfl⟩, hK⟩
theorem Ref256.below {B : Nat} {w w' : World} {b off : Nat} {f : Nat → Bool} (h : Ref256 w b off f) (hb : Below B w w') (hlt : b < B) : Ref256 w' b off f :=
  fun c hc => by rw [hb.cell (p := ⟨b, off + c, none⟩) hlt]; exact h c hc
theorem Ref256.lt {w : World} {b off : Nat} {f : Nat → Bool} (h : Ref256 w b off f) : b < w.heap.size := World.block_lt_of_cell? w _ (h 0 (by decide))
def fNone : Nat → Bool := bNone
/-- a list of the document's sets -/
def RefsAt (w : World) (a : Option Addr) (n cap : Nat) (F : List (Nat → Bool)) : Prop :=
  n = F.length ∧ n ≤ maxLen ∧ (n = 0 ∨ ∃ b off, a = some ⟨b, off, none⟩ ∧ n ≤ cap ∧ b < w.heap.size ∧ ∀ j, j < n → Ref256 w b (off + j * 256) (F.getD j bNone))
theorem RefsAt.below {B : Nat} {w w' : World} {a : Option Addr} {n cap : Nat} {F : List (Nat → Bool)} (h : RefsAt w a n cap F) (hb : Below B w w') (hB : B = w.heap.size) : RefsAt w' a n cap F := by
  obtain ⟨h1, h2, h3⟩ := h
  refine ⟨h1, h2, ?_⟩
  rcases h3 with h3 | ⟨b, off, e1, e2, e3, e4⟩
  · exact .inl h3
  · exact .inr ⟨b, off, e1, e2, Nat.lt_of_lt_of_le e3 hb.size, fun j hj => (e4 j hj).below hb (by omega)⟩
def refCells (F : List (Nat → Bool)) : List Value := F.flatMap fun f => (bc f).toList
theorem bc_length (f : Nat → Bool) : (bc f).toList.length = 256 := by rw [Array.length_toList, bc_size]
theorem refCells_cons (f : Nat → Bool) (F : List (Nat → Bool)) : refCells (f :: F) = (bc f).toList ++ refCells F := by simp [refCells]
theorem refCells_append (F G : List (Nat → Bool)) : refCells (F ++ G) = refCells F ++ refCells G := by simp [refCells]
theorem refCells_one (f : Nat → Bool) : refCells [f] = (bc f).toList := by simp [refCells]
theorem refCells_length (F : List (Nat → Bool)) : (refCells F).length = F.length * 256 := by
  induction F with
  | nil => rfl
  | cons f F ih => rw [refCells_cons, List.length_append, bc_length, ih, List.length_cons]; omega
theorem refCells_get (F : List (Nat → Bool)) (j : Nat) (hj : j < F.length) (c : Nat) (hc : c < 256) : (refCells F)[j * 256 + c]? = some (.bool (F.getD j bNone c)) := by
  induction F generalizing j with
  | nil => simp at hj
  | cons f F ih =>
    rw [refCells_cons]
    cases j with
    | zero =>
      rw [List.getElem?_append_left (by rw [bc_length]; omega), Array.getElem?_toList, Nat.zero_mul, Nat.zero_add, bc_get f c hc]
      rfl
    | succ j =>
      have := ih j (by simpa using hj)
      rw [List.getElem?_append_right (by rw [bc_length]; omega), bc_length, show (j + 1) * 256 + c - 256 = j * 256 + c from by omega]
      exact this
theorem bc_list_set (f : Nat → Bool) (c : Nat) (v : Bool) (hc : c < 256) : (bc f).toList.set c (.bool v) = (bc fun i => if i = c then v else f i).toList := by
  rw [← bc_set f c v hc, Array.toList_setIfInBounds]
theorem refCells_set (F : List (Nat → Bool)) (j : Nat) (hj : j < F.length) (c : Nat) (hc : c < 256) (v : Bool) :
    (refCells F).set (j * 256 + c) (.bool v) = refCells (F.set j (fun i => if i = c then v else F.getD j bNone i)) := by
  induction F generalizing j with
  | nil => simp at hj
  | cons f F ih =>
    cases j with
    | zero =>
      rw [refCells_cons, List.set_cons_zero, refCells_cons, Nat.zero_mul, Nat.zero_add, List.set_append_left _ _ (by rw [bc_length]; exact hc), bc_list_set f c v hc]
      rfl
    | succ j =>
      have := ih j (by simpa using hj)
      rw [refCells_cons, List.set_cons_succ, refCells_cons, List.set_append_right _ _ (by rw [bc_length]; omega), bc_length, show (j + 1) * 256 + c - 256 = j * 256 + c from by omega, this]
      rfl
theorem flatMap_eq {α β : Type} {f g : α → List β} : ∀ (l : List α), (∀ x ∈ l, f x = g x) → l.flatMap f = l.flatMap g
  | [], _ => rfl
  | x :: l, h => by rw [List.flatMap_cons, List.flatMap_cons, h x (by simp), flatMap_eq l (fun y hy => h y (by simp [hy]))]
theorem refCells_ext : ∀ (F G : List (Nat → Bool)), F.length = G.length → (∀ j, j < F.length → ∀ c, c < 256 → F.getD j bNone c = G.getD j bNone c) → refCells F = refCells G
  | [], [], _, _ => rfl
  | [], _ :: _, h, _ => by simp at h
  | _ :: _, [], h, _ => by simp at h
  | f :: F, g :: G, h, hc => by
    rw [refCells_cons, refCells_cons, bc_ext f g (fun c h' => hc 0 (by simp) c h'), refCells_ext F G (by simpa using h) (fun j hj c h' => hc (j + 1) (by simpa using hj) c h')]
theorem info_ref : (Tryd.prog.info? 54).map (fun i => (i.zero, i.size, i.bytes)) = some (some (.agg (bc bNone)), 256, 256) := by kernel_rfl
theorem refsAt_of_owns {w : World} {base : Nat} {a : Option Addr} {cap : Nat} {F : List (Nat → Bool)} (h : w.ownsRow base 54 256 (.slice a F.length cap) F.length (refCells F)) :
    RefsAt w a F.length cap F ∧ ∀ x, a = some x → base ≤ x.block ∧ x.off = 0 := by
  have hrow := h.2
  rcases hrow with ⟨h1, h0⟩ | ⟨g, c, cur, hv, hg, hblk, hnc, hcm, _⟩
  · injection h1 with e1 e2 e3
    subst e1
    exact ⟨⟨rfl, by rw [h0]; decide, .inl h0⟩, fun x hx => by cases hx⟩
  · cases hv
    refine ⟨⟨rfl, Nat.le_trans hnc hcm, .inr ⟨g, 0, rfl, hnc, lt_of_block hblk, fun j hj q hq => ?_⟩⟩, fun x hx => by cases hx; exact ⟨hg, rfl⟩⟩
    rw [Nat.zero_add, h.cellAt _ (by omega)]
    exact refCells_get F j hj q hq
theorem bc_list_one (f : Nat → Bool) : ∀ u ∈ (bc f).toList, u.oneCell' = true := by
  intro u hu
  have := Array.all_eq_true_iff_forall_mem.1 (bc_one f) u (Array.mem_toList_iff.1 hu)
  exact this
theorem bc_new (w : World) (f : Nat → Bool) (t : TypeId) : ∀ (j : Nat) (x : Value), (bc f).toList[j]? = some x → (w.alloc (.cells (bc f) t)).cell? ((⟨w.heap.size, 0, none⟩ : Addr).add j) = some x := by
  intro j x hx
  rw [addr_at, Nat.zero_add]
  rw [Array.getElem?_toList] at hx
  simp [hx]
theorem foldl_set_zip : ∀ (l : List Value) (k : Nat) (Z : Array Value), Z.size = k + l.length → (l.zipIdx k).foldl (fun cs x => cs.setIfInBounds (0 + x.2) x.1) Z = (Z.toList.take k ++ l).toArray
  | [], k, Z, h => by
    simp at h
    simp [← h, ← Array.length_toList]
  | v :: l, k, Z, h => by
    rw [List.zipIdx_cons, List.foldl_cons, foldl_set_zip l (k + 1) _ (by simp at h ⊢; omega)]
    congr 1
    simp only [Nat.zero_add, Array.toList_setIfInBounds]
    rw [List.take_succ_eq_append_getElem (by simp at h ⊢; omega), List.take_set_of_le (by omega)]
    simp
theorem fill_ref (f : Nat → Bool) (Z : Array Value) (hZ : Z.size = 256) : Instr.fill (fun i => some (i * 256, 256)) Z [(0, BV f)] = some (bc f) := by
  have hcs : (BV f).cells = bc f := rfl
  simp only [Instr.fill, hcs, bc_size, hZ]
  simp only [Nat.zero_mul, Nat.zero_add, ne_eq, not_true_eq_false, decide_false, Bool.false_or, gt_iff_lt, Nat.lt_irrefl, Bool.false_eq_true, if_false, Option.some.injEq]
  rw [← Array.foldl_toList, Array.toList_zipIdx]
  have := foldl_set_zip (bc f).toList 0 Z (by rw [bc_length, hZ])
  simpa using this
theorem build_zero (w : World) : (Instr.build 54 #[]).run Tryd.prog w = .ok (BV bNone) w := by kernel_rfl
theorem wpList_zero_ref {ops : Array Oper} {rest : List Oper} {o : Oper} {a : Act} {w : World} {Q : Exit → Act → World → Prop} (hgd : o.guard = none) (ho : o.op = .build 54 #[])
    (h : wpList Tryd.prog ops Q rest (a.put o.dst (BV bNone)) w) : wpList Tryd.prog ops Q (o :: rest) a w :=
  wpList_plain hgd fun _ hK => by
    have hm : (#[] : Array (Nat × Operand)).map (fun (i, x) => (i, a.eval x)) = #[] := by simp
    unfold Oper.wp execOp
    simp only [ho, hm, Sem.run_bind, Sem.run_pure, build_zero, Result.andThen_ok]
    exact hK _ _ h
theorem wpList_zero_ref_want {ops : Array Oper} {rest : List Oper} {o : Oper} {a : Act} {w : World} {Q : Exit → Act → World → Prop} (hw : Region.wanted o (yielded ops a.tmps) = true) (ho : o.op = .build 54 #[])
    (h : wpList Tryd.prog ops Q rest (a.put o.dst (BV bNone)) w) : wpList Tryd.prog ops Q (o :: rest) a w :=
  BigFrame.wpList_want hw fun _ hK => by
    have hm : (#[] : Array (Nat × Operand)).map (fun (i, x) => (i, a.eval x)) = #[] := by simp
    unfold Oper.wp execOp
    simp only [ho, hm, Sem.run_bind, Sem.run_pure, build_zero, Result.andThen_ok]
    exact hK _ _ h
end Go.Proofs.YtonhmjfopidacaaDoor
