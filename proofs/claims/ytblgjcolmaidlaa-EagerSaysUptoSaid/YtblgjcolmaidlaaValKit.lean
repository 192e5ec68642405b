/- A value loaded out of memory, stored, made of a list. -/
import Derived.Test.YtblgjcolmaidlaaOpenVal
import Derived.Test.YtblgjcolmaidlaaCoreKit
namespace Go.Proofs.Ytblgjcolmaidlaa
namespace V
set_option maxRecDepth 100000
open Go.RowKit
/-- three cells lie at b, off -/
def Val3 (w : World) (b off : Nat) (cs : List Value) : Prop := cs.length = 3 ∧ ∀ q, q < 3 → w.cell? ⟨b, off + q, none⟩ = cs[q]?
theorem vals_get (w : World) (b : Nat) : ∀ (l : List Vl) (off : Nat), valsAt w l b off → ∀ j (hj : j < l.length), ∃ cs : List Value, Val3 w b (off + j * 3) cs ∧ Vl.at w l[j] cs
  | [], _, _, j, hj => by simp at hj
  | x :: l, off, h, j, hj => by
    rw [valsAt_cons] at h
    cases j with
    | zero =>
      obtain ⟨cs, h1, h2, h3⟩ := h.1
      exact ⟨cs, ⟨h1, fun q hq => by rw [Nat.zero_mul, Nat.add_zero]; exact h2 q hq⟩, h3⟩
    | succ j =>
      obtain ⟨cs, ⟨h1, h2⟩, h3⟩ := vals_get w b l (off + 3) h.2 j (by simpa using hj)
      exact ⟨cs, ⟨h1, fun q hq => by rw [show off + (j + 1) * 3 + q = off + 3 + j * 3 + q from by omega]; exact h2 q hq⟩, h3⟩
theorem Val3.below {w w' : World} {b off : Nat} {cs : List Value} (h : Val3 w b off cs) {B : Nat} (hb : b < B) (hB : Below B w w') : Val3 w' b off cs :=
  ⟨h.1, fun q hq => by rw [hB.cell (p := ⟨b, off + q, none⟩) hb]; exact h.2 q hq⟩
theorem Val3.lt {w : World} {b off : Nat} {cs : List Value} (h : Val3 w b off cs) : b < w.heap.size := by
  have h0 := h.2 0 (by decide)
  rw [List.getElem?_eq_getElem (by rw [h.1]; decide)] at h0
  exact World.block_lt_of_cell? w _ h0
theorem infoVal : (Try.prog.info? 25).map (·.size) = some 3 := by kernel_rfl
theorem loadVal {w : World} {b off : Nat} {cs : List Value} (h : Val3 w b off cs) : (loadVar 25 ⟨b, off, none⟩).run Try.prog w = .ok (.agg cs.toArray) w := by
  have hl := run_loadCells_list (P := Try.prog) w ⟨b, off, none⟩ cs (fun j v hv => by
    have hj : j < 3 := by have := (List.getElem?_eq_some_iff.mp hv).1; rw [h.1] at this; exact this
    rw [addr_at, h.2 j hj]; exact hv)
  have hi := infoVal
  rw [h.1] at hl
  cases hq : Try.prog.info? 25 with
  | none => simp [hq] at hi
  | some i =>
    have hs : i.size = 3 := by simpa [hq] using hi
    have hagg : (isAgg 25).run Try.prog w = .ok true w := by
      unfold isAgg
      rw [Sem.run_bind, run_underlying Try.underlying25 w]
      rfl
    simp [loadVar, Sem.run_bind, hagg, sizeOf, typeInfo, hq, hs, hl]
theorem wpList_load_val {ops : Array Oper} {rest : List Oper} {o : Oper} {a : Act} {w : World} {Q : Exit → Act → World → Prop} (hgd : o.guard = none) (x : Operand) (ho : o.op = .load 25 x)
    (b off : Nat) (cs : List Value) (hx : a.eval x = .pointer (some ⟨b, off, none⟩)) (hc : Val3 w b off cs)
    (h : wpList Try.prog ops Q rest (a.put o.dst (.agg cs.toArray)) w) : wpList Try.prog ops Q (o :: rest) a w :=
  wpList_plain hgd fun _ hK => by
    unfold Oper.wp execOp
    simp only [ho, hx, Instr.loadAt, Instr.sureAddr, Sem.run_bind, Sem.run_pure, Result.andThen_ok, loadVal hc]
    exact hK _ _ h
theorem wpList_load_val_want {ops : Array Oper} {rest : List Oper} {o : Oper} {a : Act} {w : World} {Q : Exit → Act → World → Prop} (hw : Region.wanted o (yielded ops a.tmps) = true) (x : Operand) (ho : o.op = .load 25 x)
    (b off : Nat) (cs : List Value) (hx : a.eval x = .pointer (some ⟨b, off, none⟩)) (hc : Val3 w b off cs)
    (h : wpList Try.prog ops Q rest (a.put o.dst (.agg cs.toArray)) w) : wpList Try.prog ops Q (o :: rest) a w :=
  BigFrame.wpList_want hw fun _ hK => by
    unfold Oper.wp execOp
    simp only [ho, hx, Instr.loadAt, Instr.sureAddr, Sem.run_bind, Sem.run_pure, Result.andThen_ok, loadVal hc]
    exact hK _ _ h
theorem quiet_load_val {o : Oper} {a : Act} {C : World → Prop} {K : Act → Prop} (x : Operand) (ho : o.op = .load 25 x) (b off : Nat) (cs : List Value) (hx : a.eval x = .pointer (some ⟨b, off, none⟩))
    (h : ∀ w, C w → Val3 w b off cs) (hK : K (a.put o.dst (.agg cs.toArray))) : o.quiet Try.prog a C K :=
  ⟨.agg cs.toArray, fun w hw => by
    unfold Oper.quietAt execOp
    simp only [ho, hx, Instr.loadAt, Instr.sureAddr, Sem.run_bind, Sem.run_pure, Result.andThen_ok, loadVal (h w hw)]
    exact ⟨rfl, rfl⟩, hK⟩
theorem at_cells {w : World} {x : Vl} {cs : List Value} (hat : Vl.at w x cs) : ∃ (a : Option Addr) (cap : Nat), x = .mk x.kind x.byte x.nodes ∧ cs = [.int .i64 x.kind, .int .u8 x.byte, .slice a x.nodes.length cap] := by
  cases x with
  | mk k z l =>
    rw [at_mk] at hat
    obtain ⟨_, _, a, cap, hcs, _, _⟩ := hat
    exact ⟨a, cap, rfl, hcs⟩
theorem at_lit {W : World} {x : Vl} {cs : List Value} (h : Vl.at W x cs) : ∃ (k : Int) (z : Nat) (a : Option Addr) (len cap : Nat), cs = [.int .i64 k, .int .u8 z, .slice a len cap] := by
  obtain ⟨a, cap, _, e⟩ := at_cells h
  exact ⟨_, _, a, _, cap, e⟩
theorem at_len {W : World} {x : Vl} {cs : List Value} (h : Vl.at W x cs) : cs.length = 3 := by
  obtain ⟨_, _, _, e⟩ := at_cells h
  rw [e]; rfl
theorem at_byte {w : World} {x : Vl} {cs : List Value} (hat : Vl.at w x cs) : x.byte < 256 := by
  cases x with
  | mk k z l => rw [at_mk] at hat; exact hat.2.1
def ValIn (w : World) (b : Nat) (cs : Array Value) : Prop := w.heap[b]? = some (.cells cs 25)
theorem val3_in {w : World} {b : Nat} {cs : List Value} (h : ValIn w b cs.toArray) (hc : cs.length = 3) : Val3 w b 0 cs := ⟨hc, fun q _ => by rw [Nat.zero_add, cells_at h]; simp⟩
theorem val_later {c : Nat} {w w' : World} {cs : Array Value} (h : Below w.heap.size w w') (hn : ValIn w c cs) : ValIn w' c cs := (h.block c (lt_of_block hn)).trans hn
theorem wpList_store_val {ops : Array Oper} {rest : List Oper} {o : Oper} {a : Act} {w : World} {Q : Exit → Act → World → Prop} (hgd : o.guard = none) (x y : Operand) (ho : o.op = .store 25 x y)
    (b : Nat) (cs ds : Array Value) (hx : a.eval x = .pointer (some ⟨b, 0, none⟩)) (hy : a.eval y = .agg ds) (hb : ValIn w b cs) (hd : ds.size = 3) (hc : cs.size = 3) (h1 : (ds.all fun x => x.oneCell') = true)
    (h : ∀ w', ValIn w' b ds → Only b w w' → wpList Try.prog ops Q rest (a.put o.dst undef) w') : wpList Try.prog ops Q (o :: rest) a w :=
  wpList_store_row hgd _ _ _ ho b _ hx hy _ _ hb (by rw [hd]; exact infoVal) (by rw [hd, hc]) h1 (h _ (setRow_heap w b _ _ _ _ hb) (only_row _ _ _))
theorem results_val {fn : Func} {p : Tmp} (h : fn.results = #[.cell p 25]) (tmps : Array Value) (w : World) (b : Nat) (cs : Array Value) (hp : tmps.getD p undef = .pointer (some ⟨b, 0, none⟩)) (hs : ValIn w b cs) (hc : cs.size = 3) :
    (results fn tmps).run Try.prog w = .ok (.agg cs) w := results_cell_row h tmps w b _ _ _ _ hp hs Try.underlying25 rfl (show _ = some cs.size from by rw [hc]; exact infoVal)
theorem at_cell_one {w : World} {x : Vl} {cs : List Value} (h : Vl.at w x cs) : ∀ u ∈ cs, u.oneCell' = true := by
  obtain ⟨_, _, _, e⟩ := at_cells h
  rw [e]
  simp only [List.forall_mem_cons]
  exact ⟨rfl, rfl, rfl, fun p hp => by cases hp⟩
theorem valsAt_cells {W : World} {b : Nat} : ∀ (L : List (Vl × List Value)) (off : Nat), (∀ p ∈ L, Vl.at W p.1 p.2) → (∀ q, q < L.length * 3 → W.cell? ⟨b, off + q, none⟩ = (L.flatMap (·.2))[q]?) → valsAt W (L.map (·.1)) b off
  | [], off, _, _ => by rw [List.map_nil, valsAt_nil]; trivial
  | p :: L, off, h, hc => by
    rw [List.map_cons, valsAt_cons]
    have hp := at_len (h p (by simp))
    refine ⟨⟨p.2, hp, fun q hq => ?_, h p (by simp)⟩, valsAt_cells L (off + 3) (fun r hr => h r (by simp [hr])) fun q hq => ?_⟩
    · rw [hc q (by simp; omega), List.flatMap_cons, List.getElem?_append_left (by omega)]
    · rw [Nat.add_assoc, hc (3 + q) (by simp; omega), List.flatMap_cons, List.getElem?_append_right (by omega)]
      congr 1
      omega
theorem at_made {W : World} {b : Nat} {k : Int} {z : Nat} (hk : fits64 k) (hz : z < 256) (L : List (Vl × List Value)) (hL : L.length ≤ maxLen) (h : ∀ p ∈ L, Vl.at W p.1 p.2)
    (hb : W.heap[b]? = some (.cells (L.flatMap (·.2)).toArray 25)) :
    Vl.at W (.mk k z (L.map (·.1))) [.int .i64 k, .int .u8 z, .slice (some ⟨b, 0, none⟩) L.length L.length] := by
  rw [at_mk]
  refine ⟨hk, hz, some ⟨b, 0, none⟩, L.length, ?_, by simpa using hL, .inr ⟨b, 0, rfl, by simp, (Array.getElem?_eq_some_iff.1 hb).1, valsAt_cells L 0 h fun q _ => ?_⟩⟩
  · simp only [List.length_map]
  · simp [World.cell?, hb]
theorem at_plain {W : World} {k : Int} {z : Nat} (hk : fits64 k) (hz : z < 256) : Vl.at W (.mk k z []) [.int .i64 k, .int .u8 z, .slice none 0 0] := by
  rw [at_mk]
  exact ⟨hk, hz, none, 0, rfl, by decide, .inl rfl⟩
/-- the list of a value, as a slice -/
def ListAt (w : World) (l : List Vl) (v : Value) : Prop := ∃ (a : Option Addr) (cap : Nat), v = .slice a l.length cap ∧ l.length ≤ maxLen ∧ (l.length = 0 ∨ ∃ b off, a = some ⟨b, off, none⟩ ∧ l.length ≤ cap ∧ b < w.heap.size ∧ valsAt w l b off)
theorem ListAt.below {w w' : World} {l : List Vl} {v : Value} (h : ListAt w l v) (hb : Below w.heap.size w w') : ListAt w' l v := by
  obtain ⟨a, cap, rfl, h1, h2⟩ := h
  refine ⟨a, cap, rfl, h1, ?_⟩
  rcases h2 with h2 | ⟨b, off, e1, e2, e3, e4⟩
  · exact .inl h2
  · exact .inr ⟨b, off, e1, e2, Nat.lt_of_lt_of_le e3 hb.size, valsAt_below hb (Nat.le_refl _) l b off e3 e4⟩
theorem valsAt_take {w : World} {b : Nat} : ∀ (l : List Vl) (n off : Nat), valsAt w l b off → valsAt w (l.take n) b off
  | [], n, off, _ => by rw [List.take_nil, valsAt_nil]; trivial
  | x :: l, 0, off, _ => by rw [List.take_zero, valsAt_nil]; trivial
  | x :: l, n + 1, off, h => by
    rw [valsAt_cons] at h
    rw [List.take_succ_cons, valsAt_cons]
    exact ⟨h.1, valsAt_take l n (off + 3) h.2⟩
end V
end Go.Proofs.Ytblgjcolmaidlaa
