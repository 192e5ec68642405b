/- Lists of the document's own sets in memory: how one is loaded, made, appended, written. -/
import Derived.Test.YtaanhijjhllckaaRefSmall
import Derived.Test.YtaanhijjhllckaaRefEq
import Derived.Test.YtaanhijjhllckaaBlockMem
namespace Go.Proofs.Ytaanhijjhllckaa
set_option maxRecDepth 100000
open Go.RowKit

/-- at b, off lie the 256 cells of f -/
def Ref256 (w : World) (b off : Nat) (f : Nat → Bool) : Prop := ∀ c, c < 256 → w.cell? ⟨b, off + c, none⟩ = some (.bool (f c))
theorem loadRefAt {w : World} {b off : Nat} {f : Nat → Bool} (h : Ref256 w b off f) : (loadVar 33 ⟨b, off, none⟩).run Try.prog w = .ok (.agg (bc f)) w := by
  have hl := run_loadCells_list (P := Try.prog) w ⟨b, off, none⟩ (bc f).toList (fun j v hv => by
    rw [addr_at]
    have hj : j < 256 := by
      have := (List.getElem?_eq_some_iff.1 hv).1
      rwa [Array.length_toList, bc_size] at this
    rw [h j hj, ← bc_get f j hj, ← Array.getElem?_toList]; exact hv)
  have hi := infoRef
  cases hq : Try.prog.info? 33 with
  | none => simp [hq] at hi
  | some i =>
    have hs : i.size = 256 := by simpa [hq] using hi
    have hagg : (isAgg 33).run Try.prog w = .ok true w := by
      unfold isAgg
      rw [Sem.run_bind, run_underlying Try.underlying33 w]
      rfl
    rw [Array.length_toList, bc_size] at hl
    simp only [Array.toArray_toList] at hl
    simp [loadVar, Sem.run_bind, hagg, sizeOf, typeInfo, hq, hs, hl]
theorem wpList_load_refAt {ops : Array Oper} {rest : List Oper} {o : Oper} {a : Act} {w : World} {Q : Exit → Act → World → Prop} (hgd : o.guard = none) (x : Operand) (ho : o.op = .load 33 x)
    (b off : Nat) (f : Nat → Bool) (hx : a.eval x = .pointer (some ⟨b, off, none⟩)) (hc : Ref256 w b off f)
    (h : wpList Try.prog ops Q rest (a.put o.dst (BV f)) w) : wpList Try.prog ops Q (o :: rest) a w :=
  wpList_plain hgd fun _ hK => by
    unfold Oper.wp execOp
    simp only [ho, hx, Instr.loadAt, Instr.sureAddr, Sem.run_bind, Sem.run_pure, Result.andThen_ok, loadRefAt hc]
    exact hK _ _ h
theorem wpList_load_refAt_want {ops : Array Oper} {rest : List Oper} {o : Oper} {a : Act} {w : World} {Q : Exit → Act → World → Prop} (hw : Region.wanted o (yielded ops a.tmps) = true) (x : Operand) (ho : o.op = .load 33 x)
    (b off : Nat) (f : Nat → Bool) (hx : a.eval x = .pointer (some ⟨b, off, none⟩)) (hc : Ref256 w b off f)
    (h : wpList Try.prog ops Q rest (a.put o.dst (BV f)) w) : wpList Try.prog ops Q (o :: rest) a w :=
  BigFrame.wpList_want hw fun _ hK => by
    unfold Oper.wp execOp
    simp only [ho, hx, Instr.loadAt, Instr.sureAddr, Sem.run_bind, Sem.run_pure, Result.andThen_ok, loadRefAt hc]
    exact hK _ _ h
theorem quiet_load_refAt {o : Oper} {a : Act} {C : World → Prop} {K : Act → Prop} (x : Operand) (ho : o.op = .load 33 x) (b off : Nat) (f : Nat → Bool) (hx : a.eval x = .pointer (some ⟨b, off, none⟩))
    (h : ∀ w, C w → Ref256 w b off f) (hK : K (a.put o.dst (BV f))) : o.quiet Try.prog a C K :=
  ⟨BV f, fun w hw => by
    unfold Oper.quietAt execOp
    simp only [ho, hx, Instr.loadAt, Instr.sureAddr, Sem.run_bind, Sem.run_pure, Result.andThen_ok, loadRefAt (h w hw)]
    exact ⟨rfl, rfl⟩, hK⟩
theorem Ref256.below {B : Nat} {w w' : World} {b off : Nat} {f : Nat → Bool} (h : Ref256 w b off f) (hb : Below B w w') (hlt : b < B) : Ref256 w' b off f :=
  fun c hc => by rw [hb.cell (p := ⟨b, off + c, none⟩) hlt]; exact h c hc
theorem Ref256.lt {w : World} {b off : Nat} {f : Nat → Bool} (h : Ref256 w b off f) : b < w.heap.size := World.block_lt_of_cell? w _ (h 0 (by decide))
def fNone : Nat → Bool := bNone
/-- a list of the document's sets -/
def RefsAt (w : World) (a : Option Addr) (n cap : Nat) (F : List (Nat → Bool)) : Prop :=
  n = F.length ∧ n ≤ maxLen ∧ (n = 0 ∨ ∃ b off, a = some ⟨b, off, none⟩ ∧ n ≤ cap ∧ b < w.heap.size ∧ ∀ j, j < n → Ref256 w b (off + j * 256) (F.getD j bNone))
theorem RefsAt.below {B : Nat} {w w' : World} {a : Option Addr} {n cap : Nat} {F : List (Nat → Bool)} (h : RefsAt w a n cap F) (hb : Below B w w') (hB : B = w.heap.size) : RefsAt w' a n cap F := by
  obtain ⟨h1, h2, h3⟩ := h
  refine ⟨h1, h2, ?_⟩
  rcases h3 with h3 | ⟨b, off, e1, e2, e3, e4⟩
  · exact .inl h3
  · exact .inr ⟨b, off, e1, e2, Nat.lt_of_lt_of_le e3 hb.size, fun j hj => (e4 j hj).below hb (by omega)⟩
def refCells (F : List (Nat → Bool)) : List Value := F.flatMap fun f => (bc f).toList
theorem bc_length (f : Nat → Bool) : (bc f).toList.length = 256 := by rw [Array.length_toList, bc_size]
theorem refCells_cons (f : Nat → Bool) (F : List (Nat → Bool)) : refCells (f :: F) = (bc f).toList ++ refCells F := by simp [refCells]
theorem refCells_append (F G : List (Nat → Bool)) : refCells (F ++ G) = refCells F ++ refCells G := by simp [refCells]
theorem refCells_one (f : Nat → Bool) : refCells [f] = (bc f).toList := by simp [refCells]
theorem refCells_length (F : List (Nat → Bool)) : (refCells F).length = F.length * 256 := by
  induction F with
  | nil => rfl
  | cons f F ih => rw [refCells_cons, List.length_append, bc_length, ih, List.length_cons]; omega
theorem refCells_get (F : List (Nat → Bool)) (j : Nat) (hj : j < F.length) (c : Nat) (hc : c < 256) : (refCells F)[j * 256 + c]? = some (.bool (F.getD j bNone c)) := by
  induction F generalizing j with
  | nil => simp at hj
  | cons f F ih =>
    rw [refCells_cons]
    cases j with
    | zero =>
      rw [List.getElem?_append_left (by rw [bc_length]; omega), Array.getElem?_toList, Nat.zero_mul, Nat.zero_add, bc_get f c hc]
      rfl
    | succ j =>
      have := ih j (by simpa using hj)
      rw [List.getElem?_append_right (by rw [bc_length]; omega), bc_length, show (j + 1) * 256 + c - 256 = j * 256 + c from by omega]
      exact this
theorem bc_list_set (f : Nat → Bool) (c : Nat) (v : Bool) (hc : c < 256) : (bc f).toList.set c (.bool v) = (bc fun i => if i = c then v else f i).toList := by
  rw [← bc_set f c v hc, Array.toList_setIfInBounds]
theorem refCells_set (F : List (Nat → Bool)) (j : Nat) (hj : j < F.length) (c : Nat) (hc : c < 256) (v : Bool) :
    (refCells F).set (j * 256 + c) (.bool v) = refCells (F.set j (fun i => if i = c then v else F.getD j bNone i)) := by
  induction F generalizing j with
  | nil => simp at hj
  | cons f F ih =>
    cases j with
    | zero =>
      rw [refCells_cons, List.set_cons_zero, refCells_cons, Nat.zero_mul, Nat.zero_add, List.set_append_left _ _ (by rw [bc_length]; exact hc), bc_list_set f c v hc]
      rfl
    | succ j =>
      have := ih j (by simpa using hj)
      rw [refCells_cons, List.set_cons_succ, refCells_cons, List.set_append_right _ _ (by rw [bc_length]; omega), bc_length, show (j + 1) * 256 + c - 256 = j * 256 + c from by omega, this]
      rfl
theorem flatMap_eq {α β : Type} {f g : α → List β} : ∀ (l : List α), (∀ x ∈ l, f x = g x) → l.flatMap f = l.flatMap g
  | [], _ => rfl
  | x :: l, h => by rw [List.flatMap_cons, List.flatMap_cons, h x (by simp), flatMap_eq l (fun y hy => h y (by simp [hy]))]
theorem refCells_ext : ∀ (F G : List (Nat → Bool)), F.length = G.length → (∀ j, j < F.length → ∀ c, c < 256 → F.getD j bNone c = G.getD j bNone c) → refCells F = refCells G
  | [], [], _, _ => rfl
  | [], _ :: _, h, _ => by simp at h
  | _ :: _, [], h, _ => by simp at h
  | f :: F, g :: G, h, hc => by
    rw [refCells_cons, refCells_cons, bc_ext f g (fun c h' => hc 0 (by simp) c h'), refCells_ext F G (by simpa using h) (fun j hj c h' => hc (j + 1) (by simpa using hj) c h')]
theorem info_ref : (Try.prog.info? 33).map (fun i => (i.zero, i.size, i.bytes)) = some (some (.agg (bc bNone)), 256, 256) := by kernel_rfl
theorem refsAt_of_owns {w : World} {base : Nat} {a : Option Addr} {cap : Nat} {F : List (Nat → Bool)} (h : w.ownsRow base 33 256 (.slice a F.length cap) F.length (refCells F)) :
    RefsAt w a F.length cap F ∧ ∀ x, a = some x → base ≤ x.block ∧ x.off = 0 := by
  have hrow := h.2
  rcases hrow with ⟨h1, h0⟩ | ⟨g, c, cur, hv, hg, hblk, hnc, hcm, _⟩
  · injection h1 with e1 e2 e3
    subst e1
    exact ⟨⟨rfl, by rw [h0]; decide, .inl h0⟩, fun x hx => by cases hx⟩
  · cases hv
    refine ⟨⟨rfl, Nat.le_trans hnc hcm, .inr ⟨g, 0, rfl, hnc, lt_of_block hblk, fun j hj q hq => ?_⟩⟩, fun x hx => by cases hx; exact ⟨hg, rfl⟩⟩
    rw [Nat.zero_add, h.cellAt _ (by omega)]
    exact refCells_get F j hj q hq
theorem bc_list_one (f : Nat → Bool) : ∀ u ∈ (bc f).toList, u.oneCell' = true := by
  intro u hu
  have := Array.all_eq_true_iff_forall_mem.1 (bc_one f) u (Array.mem_toList_iff.1 hu)
  exact this
theorem bc_new (w : World) (f : Nat → Bool) (t : TypeId) : ∀ (j : Nat) (x : Value), (bc f).toList[j]? = some x → (w.alloc (.cells (bc f) t)).cell? ((⟨w.heap.size, 0, none⟩ : Addr).add j) = some x := by
  intro j x hx
  rw [addr_at, Nat.zero_add]
  rw [Array.getElem?_toList] at hx
  simp [hx]
theorem foldl_set_zip : ∀ (l : List Value) (k : Nat) (Z : Array Value), Z.size = k + l.length → (l.zipIdx k).foldl (fun cs x => cs.setIfInBounds (0 + x.2) x.1) Z = (Z.toList.take k ++ l).toArray
  | [], k, Z, h => by
    simp at h
    simp [← h, ← Array.length_toList]
  | v :: l, k, Z, h => by
    rw [List.zipIdx_cons, List.foldl_cons, foldl_set_zip l (k + 1) _ (by simp at h ⊢; omega)]
    congr 1
    simp only [Nat.zero_add, Array.toList_setIfInBounds]
    rw [List.take_succ_eq_append_getElem (by simp at h ⊢; omega), List.take_set_of_le (by omega)]
    simp
theorem fill_ref (f : Nat → Bool) (Z : Array Value) (hZ : Z.size = 256) : Instr.fill (fun i => some (i * 256, 256)) Z [(0, BV f)] = some (bc f) := by
  have hcs : (BV f).cells = bc f := rfl
  simp only [Instr.fill, hcs, bc_size, hZ]
  simp only [Nat.zero_mul, Nat.zero_add, ne_eq, not_true_eq_false, decide_false, Bool.false_or, gt_iff_lt, Nat.lt_irrefl, Bool.false_eq_true, if_false, Option.some.injEq]
  rw [← Array.foldl_toList, Array.toList_zipIdx]
  have := foldl_set_zip (bc f).toList 0 Z (by rw [bc_length, hZ])
  simpa using this
theorem build_ref (w : World) (f : Nat → Bool) : (Instr.buildSlice 43 1 #[(0, BV f)]).run Try.prog w = .ok (.slice (some ⟨w.heap.size, 0, none⟩) 1 1) (w.alloc (.cells (bc f) 33)) := by
  obtain ⟨i0, hi, hz0, hz1, hz2⟩ := info_parts info_ref
  have hZ : (((Array.range 256).map fun i => (Value.agg (bc bNone)).cells[i % (Value.agg (bc bNone)).cells.size]!)).size = 256 := by simp
  have hf := fill_ref f _ hZ
  unfold Instr.buildSlice
  simp only [Sem.run_bind, run_underlying Try.underlying43, Result.andThen_ok, sizeOf, typeInfo, Sem.run_pure, Nat.one_mul]
  have hzv : (zeroValue 33).run Try.prog w = .ok (.agg (bc bNone)) w := by kernel_rfl
  clear hz0 hz2 hZ
  simp [newRow, *]
theorem wpList_build_ref {ops : Array Oper} {rest : List Oper} {o : Oper} {a : Act} {w : World} {Q : Exit → Act → World → Prop} (hgd : o.guard = none) (x : Operand) (ho : o.op = .buildSlice 43 1 #[(0, x)])
    (f : Nat → Bool) (hx : a.eval x = BV f) (h : wpList Try.prog ops Q rest (a.put o.dst (.slice (some ⟨w.heap.size, 0, none⟩) 1 1)) (w.alloc (.cells (bc f) 33))) : wpList Try.prog ops Q (o :: rest) a w :=
  wpList_plain hgd fun _ hK => by
    have hm : (#[(0, x)] : Array (Nat × Operand)).map (fun (i, x) => (i, a.eval x)) = #[(0, BV f)] := by simp [hx]
    unfold Oper.wp execOp
    simp only [ho, hm, Sem.run_bind, Sem.run_pure, build_ref, Result.andThen_ok]
    exact hK _ _ h
theorem build_zero (w : World) : (Instr.build 33 #[]).run Try.prog w = .ok (BV bNone) w := by kernel_rfl
theorem wpList_zero_ref {ops : Array Oper} {rest : List Oper} {o : Oper} {a : Act} {w : World} {Q : Exit → Act → World → Prop} (hgd : o.guard = none) (ho : o.op = .build 33 #[])
    (h : wpList Try.prog ops Q rest (a.put o.dst (BV bNone)) w) : wpList Try.prog ops Q (o :: rest) a w :=
  wpList_plain hgd fun _ hK => by
    have hm : (#[] : Array (Nat × Operand)).map (fun (i, x) => (i, a.eval x)) = #[] := by simp
    unfold Oper.wp execOp
    simp only [ho, hm, Sem.run_bind, Sem.run_pure, build_zero, Result.andThen_ok]
    exact hK _ _ h
theorem wpList_zero_ref_want {ops : Array Oper} {rest : List Oper} {o : Oper} {a : Act} {w : World} {Q : Exit → Act → World → Prop} (hw : Region.wanted o (yielded ops a.tmps) = true) (ho : o.op = .build 33 #[])
    (h : wpList Try.prog ops Q rest (a.put o.dst (BV bNone)) w) : wpList Try.prog ops Q (o :: rest) a w :=
  BigFrame.wpList_want hw fun _ hK => by
    have hm : (#[] : Array (Nat × Operand)).map (fun (i, x) => (i, a.eval x)) = #[] := by simp
    unfold Oper.wp execOp
    simp only [ho, hm, Sem.run_bind, Sem.run_pure, build_zero, Result.andThen_ok]
    exact hK _ _ h
end Go.Proofs.Ytaanhijjhllckaa
