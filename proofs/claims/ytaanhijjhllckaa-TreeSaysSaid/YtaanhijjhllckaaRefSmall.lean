/- RefArr, RefQuiet, as one. -/
import Derived.Test.YtaanhijjhllckaaSetAll
import Derived.Laws.Rows
import Derived.Test.YtaanhijjhllckaaLater
namespace Go.Proofs.Ytaanhijjhllckaa
set_option maxRecDepth 100000
open Go.RowKit

/-- the cells of an array of 256 bools -/
def bc (f : Nat → Bool) : Array Value := ((List.range 256).map fun i => Value.bool (f i)).toArray
/-- the array as the program holds it -/
abbrev BV (f : Nat → Bool) : Value := .agg (bc f)
/-- block b holds the array -/
def BAt (w : World) (b : Nat) (f : Nat → Bool) : Prop := w.heap[b]? = some (.cells (bc f) 33 (0, 0))
theorem bc_size (f : Nat → Bool) : (bc f).size = 256 := by simp [bc]
theorem bc_get (f : Nat → Bool) (j : Nat) (h : j < 256) : (bc f)[j]? = some (.bool (f j)) := by
  simp [bc, List.getElem?_map, List.getElem?_range h]
theorem bc_ext (f g : Nat → Bool) (h : ∀ j, j < 256 → f j = g j) : bc f = bc g := by
  unfold bc
  congr 1
  apply List.map_congr_left
  intro j hj
  rw [h j (List.mem_range.1 hj)]
theorem BV_ext {f g : Nat → Bool} (h : ∀ j, j < 256 → f j = g j) : BV f = BV g := by unfold BV; rw [bc_ext f g h]
theorem bc_set (f : Nat → Bool) (j : Nat) (v : Bool) (h : j < 256) : (bc f).setIfInBounds j (.bool v) = bc (fun i => if i = j then v else f i) := by
  apply Array.ext_getElem?
  intro i
  rw [Array.getElem?_setIfInBounds]
  by_cases hi : i < 256
  · rw [bc_get _ i hi, bc_get _ i hi]
    by_cases hij : j = i
    · subst hij; simp [bc_size, h]
    · rw [if_neg hij, if_neg (fun e => hij e.symm)]
  · have h1 : (bc f)[i]? = none := Array.getElem?_eq_none (by rw [bc_size]; omega)
    have h2 : (bc fun i => if i = j then v else f i)[i]? = none := Array.getElem?_eq_none (by rw [bc_size]; omega)
    rw [h1, h2, if_neg (by omega)]
theorem bc_one (f : Nat → Bool) : (bc f).all (·.oneCell') = true := by
  rw [Array.all_eq_true_iff_forall_mem]
  intro v hv
  simp [bc] at hv
  obtain ⟨i, _, rfl⟩ := hv
  rfl
theorem BAt.cell {w : World} {b : Nat} {f : Nat → Bool} (h : BAt w b f) (j : Nat) (hj : j < 256) : w.cell? ⟨b, j, none⟩ = some (.bool (f j)) := by
  unfold BAt at h
  rw [cell_of_row w b j _ _ _ h, bc_get f j hj]
theorem BAt.free {w : World} {b : Nat} {f : Nat → Bool} (h : BAt w b f) (j : Nat) : w.frozen? ⟨b, j, none⟩ = false := frozen_of_row w b j _ _ h
theorem BAt.set {w : World} {b : Nat} {f : Nat → Bool} (h : BAt w b f) (j : Nat) (hj : j < 256) (v : Bool) : BAt (w.setCell ⟨b, j, none⟩ (.bool v)) b (fun i => if i = j then v else f i) := by
  unfold BAt at *
  rw [heap_setCell_same w b j _ _ _ h, bc_set f j v hj]
theorem BAt.other {w : World} {b : Nat} {f : Nat → Bool} (h : BAt w b f) (a : Addr) (u : Value) (ha : a.block ≠ b) : BAt (w.setCell a u) b f := by
  unfold BAt at *
  rw [heap_setCell_other w a b u (fun e => ha e.symm)]; exact h
theorem BAt.row {w : World} {b : Nat} {f : Nat → Bool} (h : BAt w b f) (g : Nat) (cs : Array Value) (hg : b ≠ g) : BAt (w.setRow g cs) b f := by
  unfold BAt at *
  rw [setRow_other w g b cs hg]; exact h
theorem BAt.rowSame {w : World} {b : Nat} {f g : Nat → Bool} (h : BAt w b f) : BAt (w.setRow b (bc g)) b g := setRow_heap w b _ _ _ _ h
theorem BAt.drew {w : World} {b : Nat} {f : Nat → Bool} (h : BAt w b f) : BAt w.drew b f := h
theorem BAt.lt {w : World} {b : Nat} {f : Nat → Bool} (h : BAt w b f) : b < w.heap.size := lt_of_block h
theorem BAt.alloc {w : World} {b : Nat} {f : Nat → Bool} (h : BAt w b f) (o : Obj) : BAt (w.alloc o) b f := by
  have hl := h.lt
  unfold BAt at *
  rw [heap_alloc_old w o hl]; exact h
theorem BAt.ext {w : World} {b : Nat} {f g : Nat → Bool} (h : BAt w b f) (e : ∀ j, j < 256 → f j = g j) : BAt w b g := by
  unfold BAt at *
  rw [← bc_ext f g e]; exact h
theorem BAt.below {B : Nat} {w w' : World} {b : Nat} {f : Nat → Bool} (h : BAt w b f) (hb : Below B w w') (hlt : b < B) : BAt w' b f := by
  unfold BAt at *
  rw [hb.block b hlt]; exact h
theorem BAt.start (w : World) (O : Obj) (f : Nat → Bool) (hO : O = .cells (bc f) 33 (0, 0)) (g : Nat) (hg : g = w.heap.size) : BAt (w.alloc O) g f := by
  subst hO hg
  exact heap_alloc_new w _
theorem infoRef : (Try.prog.info? 33).map (·.size) = some 256 := by kernel_rfl
theorem infoRef' (f : Nat → Bool) : (Try.prog.info? 33).map (·.size) = some (bc f).size := by rw [bc_size]; exact infoRef
theorem below_row {B g : Nat} {a w : World} (h : Below B a w) (hB : B ≤ g) (cs : Array Value) : Below B a (w.setRow g cs) :=
  h.trans ⟨rfl, rfl, rfl, by simp, fun k hk => setRow_other w g k cs (by omega)⟩
def bNone : Nat → Bool := fun _ => false
theorem zeroRef (w : World) : (zeroValue 33).run Try.prog w = .ok (.agg (bc bNone)) w := by kernel_rfl
theorem loadRef {w : World} {g : Nat} {f : Nat → Bool} (h : BAt w g f) : (loadVar 33 ⟨g, 0, none⟩).run Try.prog w = .ok (.agg (bc f)) w :=
  run_loadVar_row w g _ _ (bc f) (0, 0) _ h Try.underlying33 rfl (infoRef' f)
theorem storeRef {w : World} {g : Nat} {f : Nat → Bool} (h : BAt w g f) (f' : Nat → Bool) : (storeVar 33 ⟨g, 0, none⟩ (.agg (bc f'))).run Try.prog w = .ok () (w.setRow g (bc f')) :=
  run_storeVar_row w g _ _ (bc f) (bc f') h (infoRef' f') (by rw [bc_size, bc_size]) (bc_one f')
/-- what the builders' loops hold: the result's block is untouched, the next one holds what was gathered -/
def Arr (w wr : World) (f : Nat → Bool) : Prop := BAt wr w.heap.size bNone ∧ BAt wr (w.heap.size + 1) f ∧ Below w.heap.size w wr
theorem arr_start (w : World) : Arr w ((w.alloc (.cells (bc bNone) 33)).alloc (.cells (bc bNone) 33)) bNone :=
  ⟨(BAt.start w _ _ rfl _ rfl).alloc _, BAt.start _ _ _ rfl _ (by simp), ((Below.refl _ _).alloc (Nat.le_refl _) _).alloc (by simp) _⟩
theorem arr_set {w wr : World} {f : Nat → Bool} (h : Arr w wr f) (j : Nat) (hj : j < 256) (v : Bool) : Arr w (wr.setCell ⟨w.heap.size + 1, j, none⟩ (.bool v)) (fun i => if i = j then v else f i) :=
  ⟨h.1.other _ _ (by simp), h.2.1.set j hj v, h.2.2.setCell (by simp) _⟩
theorem arr_ext {w wr : World} {f g : Nat → Bool} (h : Arr w wr f) (e : ∀ j, j < 256 → f j = g j) : Arr w wr g := ⟨h.1, h.2.1.ext e, h.2.2⟩
/-- what the loop of Or holds -/
def InOr (w wr : World) (f g : Nat → Bool) (k : Nat) : Prop :=
  BAt wr w.heap.size (fun j => if j < k then (f j || g j) else f j) ∧ BAt wr (w.heap.size + 1) g ∧ BAt wr (w.heap.size + 1 + 1) bNone ∧ Below w.heap.size w wr
theorem inOr_start (w : World) (f g : Nat → Bool) : InOr w (((w.alloc (.cells (bc f) 33)).alloc (.cells (bc g) 33)).alloc (.cells (bc bNone) 33)) f g 0 :=
  ⟨(((BAt.start w _ f rfl _ rfl).alloc _).alloc _).ext (fun j _ => by simp), (BAt.start _ _ g rfl _ (by simp)).alloc _, BAt.start _ _ _ rfl _ (by simp), (((Below.refl _ _).alloc (Nat.le_refl _) _).alloc (by simp) _).alloc (by simp; omega) _⟩
theorem inOr_step {w wr : World} {f g : Nat → Bool} {k : Nat} (hk : k < 256) (h : InOr w wr f g k) (v : Bool) (hv : v = (f k || g k)) : InOr w (wr.setCell ⟨w.heap.size, k, none⟩ (.bool v)) f g (k + 1) :=
  ⟨(h.1.set k hk v).ext (fun j _ => by
    by_cases hj : j = k
    · subst hj; simp [hv]
    · rw [if_neg hj]; by_cases h1 : j < k
      · rw [if_pos h1, if_pos (by omega)]
      · rw [if_neg h1, if_neg (by omega)]), h.2.1.other _ _ (by simp), h.2.2.1.other _ _ (by simp; try omega), h.2.2.2.setCell (Nat.le_refl _) _⟩
/-- what the loop of And holds -/
def InAnd (w wr : World) (f g : Nat → Bool) (k : Nat) : Prop :=
  BAt wr w.heap.size (fun j => if j < k then (f j && g j) else f j) ∧ BAt wr (w.heap.size + 1) g ∧ BAt wr (w.heap.size + 1 + 1) bNone ∧ Below w.heap.size w wr
theorem inAnd_start (w : World) (f g : Nat → Bool) : InAnd w (((w.alloc (.cells (bc f) 33)).alloc (.cells (bc g) 33)).alloc (.cells (bc bNone) 33)) f g 0 :=
  ⟨(((BAt.start w _ f rfl _ rfl).alloc _).alloc _).ext (fun j _ => by simp), (BAt.start _ _ g rfl _ (by simp)).alloc _, BAt.start _ _ _ rfl _ (by simp), (((Below.refl _ _).alloc (Nat.le_refl _) _).alloc (by simp) _).alloc (by simp; omega) _⟩
theorem inAnd_step {w wr : World} {f g : Nat → Bool} {k : Nat} (hk : k < 256) (h : InAnd w wr f g k) (v : Bool) (hv : v = (f k && g k)) : InAnd w (wr.setCell ⟨w.heap.size, k, none⟩ (.bool v)) f g (k + 1) :=
  ⟨(h.1.set k hk v).ext (fun j _ => by
    by_cases hj : j = k
    · subst hj; simp [hv]
    · rw [if_neg hj]; by_cases h1 : j < k
      · rw [if_pos h1, if_pos (by omega)]
      · rw [if_neg h1, if_neg (by omega)]), h.2.1.other _ _ (by simp), h.2.2.1.other _ _ (by simp; try omega), h.2.2.2.setCell (Nat.le_refl _) _⟩
/-- what the loop of Not holds -/
def InNot (w wr : World) (f : Nat → Bool) (k : Nat) : Prop :=
  BAt wr w.heap.size (fun j => if j < k then !f j else f j) ∧ BAt wr (w.heap.size + 1) bNone ∧ Below w.heap.size w wr
theorem inNot_start (w : World) (f : Nat → Bool) : InNot w ((w.alloc (.cells (bc f) 33)).alloc (.cells (bc bNone) 33)) f 0 :=
  ⟨((BAt.start w _ f rfl _ rfl).alloc _).ext (fun j _ => by simp), BAt.start _ _ _ rfl _ (by simp), ((Below.refl _ _).alloc (Nat.le_refl _) _).alloc (by simp) _⟩
theorem inNot_step {w wr : World} {f : Nat → Bool} {k : Nat} (hk : k < 256) (h : InNot w wr f k) : InNot w (wr.setCell ⟨w.heap.size, k, none⟩ (.bool (!f k))) f (k + 1) :=
  ⟨(h.1.set k hk _).ext (fun j _ => by
    by_cases hj : j = k
    · subst hj; simp
    · rw [if_neg hj]; by_cases h1 : j < k
      · rw [if_pos h1, if_pos (by omega)]
      · rw [if_neg h1, if_neg (by omega)]), h.2.1.other _ _ (by simp), h.2.2.setCell (Nat.le_refl _) _⟩
/-- what the loop of From holds -/
def InFrom (w wr : World) (s : BitVec 256) (k : Nat) : Prop :=
  (∀ q, q < 4 → wr.cell? ⟨w.heap.size, q, none⟩ = some (.int .u64 (word s q))) ∧ BAt wr (w.heap.size + 1) bNone ∧ BAt wr (w.heap.size + 1 + 1) (fun j => decide (j < k) && s.getLsbD j) ∧ Below w.heap.size w wr
theorem inFrom_start (w : World) (s : BitVec 256) (t : TypeId) : InFrom w (((w.alloc (.cells #[.int .u64 (word s 0), .int .u64 (word s 1), .int .u64 (word s 2), .int .u64 (word s 3)] t)).alloc (.cells (bc bNone) 33)).alloc (.cells (bc bNone) 33)) s 0 :=
  ⟨fun q hq => by
    have h4 : q = 0 ∨ q = 1 ∨ q = 2 ∨ q = 3 := by omega
    rw [World.cell?_alloc_past _ _ _ (by simp; omega), World.cell?_alloc_past _ _ _ (by simp), World.cell?_alloc_at _ _ _ _ rfl]
    rcases h4 with rfl | rfl | rfl | rfl <;> rfl, (BAt.start _ _ _ rfl _ (by simp)).alloc _, (BAt.start _ _ _ rfl _ (by simp)).ext (fun j _ => by simp [bNone]), (((Below.refl _ _).alloc (Nat.le_refl _) _).alloc (by simp) _).alloc (by simp; omega) _⟩
theorem inFrom_step {w wr : World} {s : BitVec 256} {k : Nat} (hk : k < 256) (h : InFrom w wr s k) : InFrom w (wr.setCell ⟨w.heap.size + 1 + 1, k, none⟩ (.bool (s.getLsbD k))) s (k + 1) :=
  ⟨fun q hq => by
    have : (wr.setCell ⟨w.heap.size + 1 + 1, k, none⟩ (.bool (s.getLsbD k))).cell? ⟨w.heap.size, q, none⟩ = wr.cell? ⟨w.heap.size, q, none⟩ := World.cell?_of_block (w := wr) (heap_setCell_other wr _ _ _ (by simp; omega))
    rw [this]; exact h.1 q hq, h.2.1.other _ _ (by simp), (h.2.2.1.set k hk _).ext (fun j _ => by
    by_cases hj : j = k
    · subst hj; simp
    · rw [if_neg hj]; congr 1; rw [decide_eq_decide]; omega), h.2.2.2.setCell (by simp; omega) _⟩
set_option maxHeartbeats 2000000 in
theorem from_any (s : BitVec 256) (w : World) :
    Calls Try.prog 23 #[SV s] w fun e w' => e = .returned (BV s.getLsbD) ∧ Below w.heap.size w w' := by
  have hz := zeroRef
  go_enter Try.func23, Try.ntmps23
  go_wp2
  go_loopw [4] (fun i wr => ∃ k : Nat, k ≤ 256 ∧ i = .int .i64 k ∧ InFrom w wr s k) (fun i _ => 256 - (intOf i).toNat)
  case atStart => exact ⟨0, by omega, rfl, inFrom_start w s _⟩
  case round =>
    obtain ⟨k, hk, rfl, hg⟩ := hrel
    by_cases hkl : k < 256
    · have hd : decide ((k : Int) < 256) = true := by simp; omega
      have hq : k / 64 < 4 := by omega
      have hc := hg.1 (k / 64) hq
      have hcc := hg.2.2.1.cell k hkl
      have hf := hg.2.2.1.free k
      have hw := Lib.hid (has_word s k _ rfl)
      have hst := Lib.hid (inFrom_step hkl hg)
      clear hg
      go_wp2
      rw [hw.out]
      refine ⟨⟨k + 1, by omega, by go_num, hst.out⟩, ?_⟩
      simp [intOf]; omega
    · have hd : decide ((k : Int) < 256) = false := by simp; omega
      obtain rfl : k = 256 := by omega
      have hg1 := hg.2.2.1
      have hg2 := hg.2.1
      have hg3 := hg.2.2.2
      clear hz hg
      go_wp2_with (first
        | (refine wpList_load_row rfl 33 _ rfl (w.heap.size + 1 + 1) rfl _ _ _ _ hg1 Try.underlying33 rfl (infoRef' _) ?_)
        | (refine wpList_store_row rfl 33 _ _ rfl (w.heap.size + 1) _ rfl rfl _ _ hg2 (infoRef' _) (by rw [bc_size, bc_size]) (bc_one _) ?_))
      refine bodyPost_ret (v := BV fun j => decide (j < 256) && s.getLsbD j) (results_cell_row Try.results23 _ _ (w.heap.size + 1) _ _ _ _ rfl (BAt.rowSame hg2) Try.underlying33 rfl (infoRef' _)) rfl ⟨?_, below_row hg3 (by omega) _⟩
      exact congrArg Ending.returned (BV_ext fun j hj => by show (decide (j < 256) && s.getLsbD j) = s.getLsbD j; simp [hj])
/-- what the loop of Of holds -/
def InOf (w wr : World) (l : List Nat) (k : Nat) : Prop :=
  BAt wr w.heap.size bNone ∧ BAt wr (w.heap.size + 1) (fun j => decide (j ∈ l.take k)) ∧ Below w.heap.size w wr
theorem inOf_start (w : World) (l : List Nat) : InOf w ((w.alloc (.cells (bc bNone) 33)).alloc (.cells (bc bNone) 33)) l 0 :=
  ⟨(BAt.start w _ _ rfl _ rfl).alloc _, (BAt.start _ _ _ rfl _ (by simp)).ext (fun j _ => by simp [bNone]), ((Below.refl _ _).alloc (Nat.le_refl _) _).alloc (by simp) _⟩
theorem inOf_step {w wr : World} {l : List Nat} {k : Nat} (hk : k < l.length) (hx : l[k] < 256) (h : InOf w wr l k) : InOf w (wr.setCell ⟨w.heap.size + 1, l[k], none⟩ (.bool true)) l (k + 1) :=
  ⟨h.1.other _ _ (by simp), (h.2.1.set _ hx _).ext (fun j _ => by
    have e : (j ∈ l.take (k + 1)) ↔ (j ∈ l.take k ∨ j = l[k]) := by rw [List.take_succ_eq_append_getElem hk, List.mem_append, List.mem_singleton]
    show (if j = l[k] then true else decide (j ∈ l.take k)) = decide (j ∈ l.take (k + 1))
    by_cases hj : j = l[k]
    · rw [if_pos hj]; exact (decide_eq_true (e.2 (.inr hj))).symm
    · rw [if_neg hj, decide_eq_decide, e]; exact ⟨.inl, fun h => h.resolve_right hj⟩), h.2.2.setCell (by simp) _⟩
end Go.Proofs.Ytaanhijjhllckaa
namespace Go.Proofs.Ytaanhijjhllckaa
set_option maxRecDepth 100000
open Go.RowKit

abbrev ZR : Obj := .cells (bc bNone) 33
theorem quiet_load_ref {o : Oper} {a : Act} {C : World → Prop} {K : Act → Prop} (x : Operand) (ho : o.op = .load 33 x) (g : Nat) (hx : a.eval x = .pointer (some ⟨g, 0, none⟩)) (f : Nat → Bool)
    (h : ∀ w, C w → BAt w g f) (hK : K (a.put o.dst (BV f))) : o.quiet Try.prog a C K :=
  ⟨BV f, fun w hw => by
    unfold Oper.quietAt execOp
    simp only [ho, hx, Instr.loadAt, Instr.sureAddr, Sem.run_bind, Sem.run_pure, Result.andThen_ok, loadRef (h w hw)]
    exact ⟨rfl, rfl⟩, hK⟩
theorem store_new {w : World} {F : Nat → Bool} {ops : Array Oper} {rest : List Oper} {Q : Exit → Act → World → Prop} {o : Oper} {a : Act} {x y : Operand} (wX : World) (hX : wX = (w.alloc ZR).setRow w.heap.size (bc F)) (h1 : o.guard = none) (h2 : o.op = .store 33 x y)
    (h3 : a.eval x = .pointer (some ⟨w.heap.size, 0, none⟩)) (h4 : a.eval y = .agg (bc F)) (h5 : wpList Try.prog ops Q rest (a.put o.dst undef) wX) : wpList Try.prog ops Q (o :: rest) a (w.alloc ZR) := by
  subst hX
  exact wpList_store_row h1 _ _ _ h2 w.heap.size _ h3 h4 _ _ (BAt.start w ZR _ rfl _ rfl) (infoRef' _) (by rw [bc_size, bc_size]) (bc_one _) h5
theorem new_facts {w : World} {F : Nat → Bool} (wX : World) (hX : wX = (w.alloc ZR).setRow w.heap.size (bc F)) : BAt wX w.heap.size F ∧ Below w.heap.size w wX ∧ wX.heap.size = w.heap.size + 1 := by
  subst hX
  exact ⟨BAt.rowSame (BAt.start w ZR _ rfl _ rfl), below_row ((Below.refl _ _).alloc (Nat.le_refl _) _) (Nat.le_refl _) _, by simp⟩
end Go.Proofs.Ytaanhijjhllckaa
