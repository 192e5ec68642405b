/- What rank's own functions stand on: an outcome in memory, cmp.Compare, cmp.Or, the elements that count, the bytes of a list. -/
import Derived.Test.YtkekdfelcfoilaaRankMath
import Derived.Test.YtkekdfelcfoilaaRankCounted
import Derived.Test.YtkekdfelcfoilaaValOps
import Derived.Test.YtkekdfelcfoilaaRefVals
import Derived.Test.YtkekdfelcfoilaaHoldKit
namespace Go.Proofs.Ytkekdfelcfoilaa
namespace V
set_option maxRecDepth 100000
open Go.RowKit
/-- block R apart, all that is there is as before -/
structure KeptR (R : Nat) (w w' : World) : Prop where
  os : w'.os = w.os
  tape : w'.tape = w.tape
  output : w'.output = w.output
  size : w.heap.size ≤ w'.heap.size
  block : ∀ k, k < w.heap.size → k ≠ R → w'.heap[k]? = w.heap[k]?
theorem KeptR.refl (R : Nat) (w : World) : KeptR R w w := ⟨rfl, rfl, rfl, Nat.le_refl _, fun _ _ _ => rfl⟩
theorem KeptR.trans {R : Nat} {a b c : World} (h : KeptR R a b) (h' : KeptR R b c) : KeptR R a c :=
  ⟨h'.os.trans h.os, h'.tape.trans h.tape, h'.output.trans h.output, Nat.le_trans h.size h'.size, fun k hk hR => (h'.block k (Nat.lt_of_lt_of_le hk h.size) hR).trans (h.block k hk hR)⟩
theorem KeptR.of_below {R : Nat} {w w' : World} (h : Below w.heap.size w w') : KeptR R w w' := ⟨h.os, h.tape, h.output, h.size, fun k hk _ => h.block k hk⟩
theorem KeptR.of_only {R : Nat} {w w' : World} (h : Only R w w') : KeptR R w w' := ⟨h.os, h.tape, h.output, Nat.le_of_eq h.size.symm, fun k _ hR => h.block k hR⟩
theorem KeptR.below {B R : Nat} {w w' : World} (h : KeptR R w w') (hR : B ≤ R) (hs : B ≤ w.heap.size) : Below B w w' := ⟨h.os, h.tape, h.output, h.size, fun k hk => h.block k (Nat.lt_of_lt_of_le hk hs) (by omega)⟩
theorem KeptR.val {R : Nat} {w w' : World} (h : KeptR R w w') {b off : Nat} {cs : List Value} (hv : Val3 w b off cs) (hR : b ≠ R) : Val3 w' b off cs :=
  ⟨hv.1, fun q hq => by rw [World.cell?_of_block (h.block b hv.lt hR)]; exact hv.2 q hq⟩
/-! an outcome in a block -/
def OutIn (w : World) (b : Nat) (x o : Int) : Prop := w.heap[b]? = some (.cells #[.int .i64 x, .int .i64 o] 44)
theorem OutIn.lt {w : World} {b : Nat} {x o : Int} (h : OutIn w b x o) : b < w.heap.size := lt_of_block h
theorem OutIn.later {w w' : World} {b : Nat} {x o : Int} (h : OutIn w b x o) (hb : Below w.heap.size w w') : OutIn w' b x o := (hb.block b h.lt).trans h
theorem OutIn.kept {R : Nat} {w w' : World} {b : Nat} {x o : Int} (h : OutIn w b x o) (hb : KeptR R w w') (hR : b ≠ R) : OutIn w' b x o := (hb.block b h.lt hR).trans h
theorem OutIn.c0 {w : World} {b : Nat} {x o : Int} (h : OutIn w b x o) : w.cell? ⟨b, 0, none⟩ = some (.int .i64 x) := by rw [cells_at h]; rfl
theorem OutIn.c1 {w : World} {b : Nat} {x o : Int} (h : OutIn w b x o) : w.cell? ⟨b, 1, none⟩ = some (.int .i64 o) := by rw [cells_at h]; rfl
theorem infoOut : (Try.prog.info? 44).map (·.size) = some 2 := by kernel_rfl
theorem info_out : (Try.prog.info? 44).map (fun i => (i.zero, i.size, i.bytes)) = some (some (.agg #[.int .i64 0, .int .i64 0]), 2, 16) := by kernel_rfl
theorem info_oint : (Try.prog.info? 3).map (·.size) = some 1 := by kernel_rfl
theorem info_oint3 : (Try.prog.info? 3).map (fun i => (i.zero, i.size, i.bytes)) = some (some (.int .i64 0), 1, 8) := by kernel_rfl
theorem loadOut {w : World} {b : Nat} {x o : Int} (h : OutIn w b x o) : (loadVar 44 ⟨b, 0, none⟩).run Try.prog w = .ok (.agg #[.int .i64 x, .int .i64 o]) w := by
  have hl := run_loadCells_list (P := Try.prog) w ⟨b, 0, none⟩ [.int .i64 x, .int .i64 o] (fun j v hv => by
    rw [addr_at]
    match j, hv with
    | 0, hv => rw [← hv]; exact h.c0
    | 1, hv => rw [← hv]; exact h.c1)
  have hi := infoOut
  cases hq : Try.prog.info? 44 with
  | none => simp [hq] at hi
  | some i =>
    have hs : i.size = 2 := by simpa [hq] using hi
    have hagg : (isAgg 44).run Try.prog w = .ok true w := by
      unfold isAgg
      rw [Sem.run_bind, run_underlying Try.underlying44 w]
      rfl
    have hl2 : (loadCells ⟨b, 0, none⟩ 2).run Try.prog w = _ := hl
    simp [loadVar, Sem.run_bind, hagg, sizeOf, typeInfo, hq, hs, hl2]
theorem wpList_load_out {ops : Array Oper} {rest : List Oper} {o : Oper} {a : Act} {w : World} {Q : Exit → Act → World → Prop} (hgd : o.guard = none) (p : Operand) (ho : o.op = .load 44 p)
    (b : Nat) (x y : Int) (hx : a.eval p = .pointer (some ⟨b, 0, none⟩)) (hc : OutIn w b x y)
    (h : wpList Try.prog ops Q rest (a.put o.dst (.agg #[.int .i64 x, .int .i64 y])) w) : wpList Try.prog ops Q (o :: rest) a w :=
  wpList_plain hgd fun _ hK => by
    unfold Oper.wp execOp
    simp only [ho, hx, Instr.loadAt, Instr.sureAddr, Sem.run_bind, Sem.run_pure, Result.andThen_ok, loadOut hc]
    exact hK _ _ h
theorem store_out_world {w : World} {b : Nat} {x y x' y' : Int} (hb : OutIn w b x y) : OutIn (w.setRow b #[.int .i64 x', .int .i64 y']) b x' y' := setRow_heap w b _ _ _ _ hb
theorem wpList_store_out {ops : Array Oper} {rest : List Oper} {o : Oper} {a : Act} {w : World} {Q : Exit → Act → World → Prop} (hgd : o.guard = none) (p q : Operand) (ho : o.op = .store 44 p q)
    (b : Nat) (x y x' y' : Int) (hx : a.eval p = .pointer (some ⟨b, 0, none⟩)) (hy : a.eval q = .agg #[.int .i64 x', .int .i64 y']) (hb : OutIn w b x y)
    (h : ∀ w', OutIn w' b x' y' → Only b w w' → wpList Try.prog ops Q rest (a.put o.dst undef) w') : wpList Try.prog ops Q (o :: rest) a w :=
  wpList_store_row hgd _ _ _ ho b _ hx hy _ _ hb infoOut (by simp) (by simp [Value.oneCell']) (h _ (store_out_world hb) (only_row _ _ _))
theorem wp_store_out {o : Oper} {a : Act} {w : World} {K : Act → World → Prop} {Q : Exit → Act → World → Prop} (p q : Operand) (ho : o.op = .store 44 p q)
    (b : Nat) (x y x' y' : Int) (hx : a.eval p = .pointer (some ⟨b, 0, none⟩)) (hy : a.eval q = .agg #[.int .i64 x', .int .i64 y']) (hb : OutIn w b x y)
    (h : ∀ w', OutIn w' b x' y' → Only b w w' → K (a.put o.dst undef) w') : o.wp Try.prog a w K Q :=
  wp_store_row _ _ _ ho b _ hx hy _ _ hb infoOut (by simp) (by simp [Value.oneCell']) (h _ (store_out_world hb) (only_row _ _ _))
theorem storeVar_oint (w : World) (g off : Nat) (t : TypeId) (old : Array Value) (v : Value) (hg : w.heap[g]? = some (.cells old t (0, 0))) (ho : off + 1 ≤ old.size) (hv : v.cells = #[v]) (h1 : v.oneCell' = true) :
    (storeVar 3 ⟨g, off, none⟩ v).run Try.prog w = .ok () (w.setRow g (old.toList.take off ++ [v] ++ old.toList.drop (off + 1)).toArray) := by
  have h := run_storeCells_at Try.prog g off t [v] 0 old w hg (by simpa using ho) (fun u hu => by rw [List.mem_singleton] at hu; subst hu; exact h1)
  have hi := info_oint
  cases hq : Try.prog.info? 3 with
  | none => simp [hq] at hi
  | some i =>
    have hs : 1 = i.size := by simp [hq] at hi; omega
    rw [Nat.add_zero] at h
    simp [storeVar, sizeOf, typeInfo, hq, hv, ← hs]
    simpa using h
/-- the length put right -/
theorem wp_store_long {o : Oper} {a : Act} {w : World} {K : Act → World → Prop} {Q : Exit → Act → World → Prop} (p q : Operand) (ho : o.op = .store 3 p q)
    (b : Nat) (x y x' : Int) (hx : a.eval p = .pointer (some ⟨b, 0, none⟩)) (hy : a.eval q = .int .i64 x') (hb : OutIn w b x y)
    (h : ∀ w', OutIn w' b x' y → Only b w w' → K (a.put o.dst undef) w') : o.wp Try.prog a w K Q := by
  unfold Oper.wp execOp
  simp only [ho, hx, hy, Instr.storeAt, Instr.sureAddr, Sem.run_bind, Sem.run_pure, Result.andThen_ok, storeVar_oint w b 0 _ _ (.int .i64 x') hb (by simp) rfl rfl]
  exact h _ (setRow_heap w b _ _ _ _ hb) (only_row _ _ _)
/-- the order put right -/
theorem wp_store_order {o : Oper} {a : Act} {w : World} {K : Act → World → Prop} {Q : Exit → Act → World → Prop} (p q : Operand) (ho : o.op = .store 3 p q)
    (b : Nat) (x y y' : Int) (hx : a.eval p = .pointer (some ⟨b, 1, none⟩)) (hy : a.eval q = .int .i64 y') (hb : OutIn w b x y)
    (h : ∀ w', OutIn w' b x y' → Only b w w' → K (a.put o.dst undef) w') : o.wp Try.prog a w K Q := by
  unfold Oper.wp execOp
  simp only [ho, hx, hy, Instr.storeAt, Instr.sureAddr, Sem.run_bind, Sem.run_pure, Result.andThen_ok, storeVar_oint w b 1 _ _ (.int .i64 y') hb (by simp) rfl rfl]
  exact h _ (setRow_heap w b _ _ _ _ hb) (only_row _ _ _)
theorem wp_load_oint {o : Oper} {a : Act} {w : World} {K : Act → World → Prop} {Q : Exit → Act → World → Prop} (p : Operand) (ho : o.op = .load 3 p) (r : Addr) (x : Int) (hx : a.eval p = .pointer (some r)) (hc : w.cell? r = some (.int .i64 x))
    (h : K (a.put o.dst (.int .i64 x)) w) : o.wp Try.prog a w K Q := by
  unfold Oper.wp execOp
  simp only [ho, hx, Instr.loadAt, Instr.sureAddr, Sem.run_bind, Sem.run_pure, Result.andThen_ok]
  simp [loadVar, isAgg, run_underlying Try.underlying3, hc]
  exact h
/-- two numbers in a block -/
def TwoIn (w : World) (b : Nat) (x y : Int) : Prop := w.heap[b]? = some (.cells #[.int .i64 x, .int .i64 y] 3)
theorem TwoIn.c0 {w : World} {b : Nat} {x o : Int} (h : TwoIn w b x o) : w.cell? ⟨b, 0, none⟩ = some (.int .i64 x) := by rw [cells_at h]; rfl
theorem TwoIn.c1 {w : World} {b : Nat} {x o : Int} (h : TwoIn w b x o) : w.cell? ⟨b, 1, none⟩ = some (.int .i64 o) := by rw [cells_at h]; rfl
theorem two_set (Z : Array Value) (hZ : Z.size = 2) (u v : Value) : (Z.setIfInBounds 0 u).setIfInBounds 1 v = #[u, v] := by
  obtain ⟨Z⟩ := Z
  match Z, hZ with
  | [z0, z1], _ => rfl
theorem build_two (w : World) (x y : Int) : (Instr.buildSlice 56 2 #[(0, .int .i64 x), (1, .int .i64 y)]).run Try.prog w = .ok (.slice (some ⟨w.heap.size, 0, none⟩) 2 2) (w.alloc (.cells #[.int .i64 x, .int .i64 y] 3)) := by
  obtain ⟨i0, hi, hz0, hz1, hz2⟩ := info_parts info_oint3
  unfold Instr.buildSlice
  simp only [Sem.run_bind, run_underlying Try.underlying56, Result.andThen_ok, sizeOf, typeInfo, Sem.run_pure]
  simp [newRow, hi, hz1, Instr.fill, Value.cells]
  congr 2
  exact two_set _ (by simp) _ _
theorem wp_build_two {o : Oper} {a : Act} {w : World} {K : Act → World → Prop} {Q : Exit → Act → World → Prop} (p q : Operand) (ho : o.op = .buildSlice 56 2 #[(0, p), (1, q)]) (x y : Int) (hx : a.eval p = .int .i64 x) (hy : a.eval q = .int .i64 y)
    (h : ∀ w', TwoIn w' w.heap.size x y → Below w.heap.size w w' → K (a.put o.dst (.slice (some ⟨w.heap.size, 0, none⟩) 2 2)) w') : o.wp Try.prog a w K Q := by
  have hm : (#[(0, p), (1, q)] : Array (Nat × Operand)).map (fun (i, x) => (i, a.eval x)) = #[(0, .int .i64 x), (1, .int .i64 y)] := by simp [hx, hy]
  unfold Oper.wp execOp
  simp only [ho, hm, Sem.run_bind, Sem.run_pure, build_two w x y, Result.andThen_ok]
  exact h _ (World.alloc_heap_new w _) ((Below.refl _ _).alloc (Nat.le_refl _) _)
theorem results_out {fn : Func} {p : Tmp} (h : fn.results = #[.cell p 44]) (tmps : Array Value) (w : World) (b : Nat) (x y : Int) (hp : tmps.getD p undef = .pointer (some ⟨b, 0, none⟩)) (hs : OutIn w b x y) :
    (results fn tmps).run Try.prog w = .ok (.agg #[.int .i64 x, .int .i64 y]) w := results_cell_row h tmps w b _ _ _ _ hp hs Try.underlying44 rfl (show _ = some 2 from infoOut)
/-! package cmp -/
theorem nanInt_any (a : Int) (w : World) : Calls Try.prog 32 #[.int .i64 a] w fun e w' => e = .returned (.bool false) ∧ Below w.heap.size w w' := by
  go_enter Try.func32, Try.ntmps32
  go_wp2_with fail
  go_ret
  exact ⟨rfl, Below.refl _ _⟩
theorem nanByte_any (a : Nat) (w : World) : Calls Try.prog 33 #[.int .u8 a] w fun e w' => e = .returned (.bool false) ∧ Below w.heap.size w w' := by
  go_enter Try.func33, Try.ntmps33
  go_wp2_with fail
  go_ret
  exact ⟨rfl, Below.refl _ _⟩
theorem cmpInt_any (a b : Int) (w : World) : Calls Try.prog 27 #[.int .i64 a, .int .i64 b] w fun e w' => e = .returned (.int .i64 (cmpI a b)) ∧ Below w.heap.size w w' := by
  have hn1 := nanInt_any a
  have hn2 := nanInt_any b
  have hc : ∀ r, r = cmpI a b → r = cmpI a b := fun r h => h
  rcases (by omega : a < b ∨ b < a ∨ a = b) with h | h | h
  · have hr : cmpI a b = -1 := by unfold cmpI; rw [if_pos (by omega)]
    rw [hr]
    have d1 : decide ((a : Int) < b) = true := by simp; omega
    have d2 : decide ((b : Int) < a) = false := by simp; omega
    have d3 : decide ((a : Int) > b) = false := d2
    clear h hr hc
    go_enter Try.func27, Try.ntmps27
    go_wp2_with fail
    refine (hn1 _).mono ?_
    rintro e w1 ⟨rfl, hb1⟩
    have H1 := Lib.hid hb1
    clear hb1
    go_wp2_with fail
    refine (hn2 _).mono ?_
    rintro e w2 ⟨rfl, hb2⟩
    have H2 := Lib.hid (H1.out.trans (hb2.mono H1.out.size))
    clear hb2
    go_wp2_with fail
    go_ret
    exact ⟨rfl, H2.out⟩
  · have hr : cmpI a b = 1 := by unfold cmpI; rw [if_neg (by omega), if_pos (by omega)]
    rw [hr]
    have d1 : decide ((a : Int) < b) = false := by simp; omega
    have d2 : decide ((b : Int) < a) = true := by simp; omega
    have d3 : decide ((a : Int) > b) = true := d2
    clear h hr hc
    go_enter Try.func27, Try.ntmps27
    go_wp2_with fail
    refine (hn1 _).mono ?_
    rintro e w1 ⟨rfl, hb1⟩
    have H1 := Lib.hid hb1
    clear hb1
    go_wp2_with fail
    refine (hn2 _).mono ?_
    rintro e w2 ⟨rfl, hb2⟩
    have H2 := Lib.hid (H1.out.trans (hb2.mono H1.out.size))
    clear hb2
    go_wp2_with fail
    go_ret
    exact ⟨rfl, H2.out⟩
  · have hr : cmpI a b = 0 := by unfold cmpI; rw [if_neg (by omega), if_neg (by omega)]
    rw [hr]
    have d1 : decide ((a : Int) < b) = false := by simp; omega
    have d2 : decide ((b : Int) < a) = false := by simp; omega
    have d3 : decide ((a : Int) > b) = false := d2
    clear h hr hc
    go_enter Try.func27, Try.ntmps27
    go_wp2_with fail
    refine (hn1 _).mono ?_
    rintro e w1 ⟨rfl, hb1⟩
    have H1 := Lib.hid hb1
    clear hb1
    go_wp2_with fail
    refine (hn2 _).mono ?_
    rintro e w2 ⟨rfl, hb2⟩
    have H2 := Lib.hid (H1.out.trans (hb2.mono H1.out.size))
    clear hb2
    go_wp2_with fail
    go_ret
    exact ⟨rfl, H2.out⟩
theorem cmpByte_any (a b : Nat) (w : World) : Calls Try.prog 29 #[.int .u8 a, .int .u8 b] w fun e w' => e = .returned (.int .i64 (cmpI a b)) ∧ Below w.heap.size w w' := by
  have hn1 := nanByte_any a
  have hn2 := nanByte_any b
  have hc : ∀ r, r = cmpI a b → r = cmpI a b := fun r h => h
  rcases (by omega : a < b ∨ b < a ∨ a = b) with h | h | h
  · have hr : cmpI a b = -1 := by unfold cmpI; rw [if_pos (by omega)]
    rw [hr]
    have d1 : decide ((a : Int) < b) = true := by simp; omega
    have d2 : decide ((b : Int) < a) = false := by simp; omega
    have d3 : decide ((a : Int) > b) = false := d2
    have d4 : decide (a < b) = true := by simp; omega
    have d5 : decide (b < a) = false := by simp; omega
    have d6 : decide (a > b) = false := d5
    clear h hr hc
    go_enter Try.func29, Try.ntmps29
    go_wp2_with fail
    refine (hn1 _).mono ?_
    rintro e w1 ⟨rfl, hb1⟩
    have H1 := Lib.hid hb1
    clear hb1
    go_wp2_with fail
    refine (hn2 _).mono ?_
    rintro e w2 ⟨rfl, hb2⟩
    have H2 := Lib.hid (H1.out.trans (hb2.mono H1.out.size))
    clear hb2
    go_wp2_with fail
    go_ret
    exact ⟨rfl, H2.out⟩
  · have hr : cmpI a b = 1 := by unfold cmpI; rw [if_neg (by omega), if_pos (by omega)]
    rw [hr]
    have d1 : decide ((a : Int) < b) = false := by simp; omega
    have d2 : decide ((b : Int) < a) = true := by simp; omega
    have d3 : decide ((a : Int) > b) = true := d2
    have d4 : decide (a < b) = false := by simp; omega
    have d5 : decide (b < a) = true := by simp; omega
    have d6 : decide (a > b) = true := d5
    clear h hr hc
    go_enter Try.func29, Try.ntmps29
    go_wp2_with fail
    refine (hn1 _).mono ?_
    rintro e w1 ⟨rfl, hb1⟩
    have H1 := Lib.hid hb1
    clear hb1
    go_wp2_with fail
    refine (hn2 _).mono ?_
    rintro e w2 ⟨rfl, hb2⟩
    have H2 := Lib.hid (H1.out.trans (hb2.mono H1.out.size))
    clear hb2
    go_wp2_with fail
    go_ret
    exact ⟨rfl, H2.out⟩
  · have hr : cmpI a b = 0 := by unfold cmpI; rw [if_neg (by omega), if_neg (by omega)]
    rw [hr]
    have d1 : decide ((a : Int) < b) = false := by simp; omega
    have d2 : decide ((b : Int) < a) = false := by simp; omega
    have d3 : decide ((a : Int) > b) = false := d2
    have d4 : decide (a < b) = false := by simp; omega
    have d5 : decide (b < a) = false := by simp; omega
    have d6 : decide (a > b) = false := d5
    clear h hr hc
    go_enter Try.func29, Try.ntmps29
    go_wp2_with fail
    refine (hn1 _).mono ?_
    rintro e w1 ⟨rfl, hb1⟩
    have H1 := Lib.hid hb1
    clear hb1
    go_wp2_with fail
    refine (hn2 _).mono ?_
    rintro e w2 ⟨rfl, hb2⟩
    have H2 := Lib.hid (H1.out.trans (hb2.mono H1.out.size))
    clear hb2
    go_wp2_with fail
    go_ret
    exact ⟨rfl, H2.out⟩
theorem orInt_any (a b : Int) (g : Nat) (w : World) (h : TwoIn w g a b) : Calls Try.prog 26 #[.slice (some ⟨g, 0, none⟩) 2 2] w fun e w' => e = .returned (.int .i64 (orI a b)) ∧ Below w.heap.size w w' := by
  have c0 := h.c0
  have c1 := h.c1
  clear h
  by_cases ha : a = 0
  · subst ha
    rw [orI_zero]
    by_cases hb : b = 0
    · subst hb
      go_enter Try.func26, Try.ntmps26
      go_wp2_with fail
      refine wp_loop_rounds 3 ?_
      iterate 3 (rw [rounds_succ]; go_wp2_with fail)
      go_ret
      exact ⟨rfl, Below.refl _ _⟩
    · have e : (b != 0) = true := by simp [hb]
      clear hb
      go_enter Try.func26, Try.ntmps26
      go_wp2_with fail
      refine wp_loop_rounds 3 ?_
      iterate 2 (rw [rounds_succ]; go_wp2_with fail)
      go_ret
      exact ⟨rfl, Below.refl _ _⟩
  · have e : (a != 0) = true := by simp [ha]
    rw [orI_ne ha]
    clear ha
    go_enter Try.func26, Try.ntmps26
    go_wp2_with fail
    refine wp_loop_rounds 3 ?_
    rw [rounds_succ]
    go_wp2_with fail
    go_ret
    exact ⟨rfl, Below.refl _ _⟩
/-! the bytes of a list -/
set_option maxHeartbeats 4000000 in
theorem length_any {L : List Vl} {v : Value} {w : World} (hL : ListAt w L v) : Calls Try.prog 34 #[v] w fun e w' => e = .returned (.int .i64 (lens L)) ∧ Below w.heap.size w w' := by
  obtain ⟨a, cap, rfl, hmax, hl⟩ := hL
  have hLx : (L.length : Int) ≤ 9223372036854775807 := by unfold maxLen at hmax; omega
  have Hl := Lib.hid hl
  clear hl hmax
  go_enter Try.func34, Try.ntmps34
  go_wp2_with fail
  go_loopw [3, 8] (fun s i wr => ∃ j : Nat, s = .int .i64 (lens (L.take j)) ∧ i = .int .i64 j ∧ j ≤ L.length ∧ Hid (Below w.heap.size w wr)) (fun _ i _ => L.length - (intOf i).toNat)
  case atStart => exact ⟨0, rfl, rfl, Nat.zero_le _, Lib.hid (Below.refl _ _)⟩
  case round =>
    obtain ⟨j, rfl, rfl, hj, hB⟩ := hrel
    by_cases hjl : j < L.length
    · have hdj : decide ((j : Int) < L.length) = true := by simp; omega
      obtain ⟨b, off, ha, hcap, hbw, hnodes⟩ := Hl.out.resolve_left (by omega)
      obtain ⟨ds, hcell, hchild⟩ := vals_get _ b L off hnodes j hjl
      have h9 : Val3 wr b (off + j * 3) ds := hcell.below hbw hB.out
      have hat9 : Vl.at wr L[j] ds := Vl.at_below hB.out (Nat.le_refl _) _ _ hchild
      have h10 : Val3 (wr.alloc (.cells ds.toArray 25)) wr.heap.size 0 ds := val3_in (World.alloc_heap_new wr (.cells ds.toArray 25)) (at_len hchild)
      have hcall := len_any L[j] ds (wr.alloc (.cells ds.toArray 25)) (Vl.at_below (K.alloc_below wr _) (Nat.le_refl _) _ _ hat9)
      have hstep := lens_take_succ L j hjl
      unfold Vl.len at hstep
      obtain ⟨k1, z1, a1, len1, cap1, rfl⟩ := at_lit hchild
      subst ha
      generalize L[j].meas.1 = n1 at hcall hstep
      have Hstep := Lib.hid hstep
      generalize lens (L.take j) = s0 at Hstep ⊢
      have Hal := Lib.hid (hB.out.trans ((K.alloc_below wr (.cells #[.int .i64 k1, .int .u8 z1, .slice a1 len1 cap1] 25)).mono hB.out.size))
      have hsz : (wr.alloc (.cells #[.int .i64 k1, .int .u8 z1, .slice a1 len1 cap1] 25)).heap.size = wr.heap.size + 1 := by simp
      clear hcell hchild hnodes hstep hat9
      go_wp2_with (first
        | (refine wpList_load_val rfl _ rfl b (off + j * 3) _ rfl h9 ?_)
        | (refine wpList_load_val rfl _ rfl wr.heap.size 0 _ rfl h10 ?_)
        | (go_at_call 18; refine hcall.mono ?_; rintro e w3 ⟨rfl, hb3⟩; have Hb3 := Lib.hid (Hal.out.trans (hb3.mono Hal.out.size)); clear hb3)
        | fail)
      go_roundw
      case rel => exact ⟨j + 1, by rw [Hstep.out], by go_num, by omega, Hb3⟩
      case measure => simp [intOf]; omega
    · obtain rfl : j = L.length := by omega
      have hdj : decide ((L.length : Int) < L.length) = false := by simp
      rw [List.take_of_length_le (Nat.le_refl _)]
      go_wp2_with fail
      go_ret
      exact ⟨rfl, hB.out⟩
end V
end Go.Proofs.Ytkekdfelcfoilaa
