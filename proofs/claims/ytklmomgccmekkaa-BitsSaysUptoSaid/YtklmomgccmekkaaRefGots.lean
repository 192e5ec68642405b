/- RefGotKit, RefGotHold, RefGot1, RefGot2, RefGotGrow, RefGot3, RefGet, as one. -/
import Derived.Test.YtklmomgccmekkaaRefVals
import Derived.Test.YtklmomgccmekkaaBitsRd
import Derived.Test.YtklmomgccmekkaaText
import Derived.Test.YtklmomgccmekkaaRefCores
import Derived.Test.YtklmomgccmekkaaHoldKit
import Derived.Deep.DeepCutAuto
import Derived.Deep.LoopGhost
namespace Go.Proofs.Ytklmomgccmekkaa
namespace V
set_option maxRecDepth 100000
open Go.RowKit
open K (veil veil_size veil_block veil_cell)
/-- bytes that a reading may be asked for -/
def BytesS (Wc : World) (p : Option Addr) (n cap : Nat) (s : List Nat) : Prop := BytesAt Wc p n cap s ∧ s.length ≤ 256
/-- what a reading hands back; the bytes lie in the world Wc -/
def RGot (Wc w : World) (r : Option (Vl × List Nat × List Nat)) (e : Ending) (w' : World) : Prop :=
  ∃ (k : Int) (z : Nat) (a : Option Addr) (len cap : Nat) (t : ByteArray) (p : Option Addr) (n c : Nat), e = .returned (.tuple #[.agg #[.int .i64 k, .int .u8 z, .slice a len cap], .string t, .slice p n c, .bool r.isSome]) ∧ Below w.heap.size w w' ∧
    (∀ v b2 s2, r = some (v, b2, s2) → RefIn (fromV w.heap.size) w' v [.int .i64 k, .int .u8 z, .slice a len cap] ∧ nats t = b2 ∧ t.size ≤ 9223372036854775807 ∧ BytesS Wc p n c s2)
def RGotOk (Wc : World) (f : Rd) (cs : List Value) : Prop := ∀ (t : ByteArray) (s : List Nat) (p : Option Addr) (cap : Nat) (w : World), Below Wc.heap.size Wc w → t.size ≤ 9223372036854775807 → BytesS Wc p s.length cap s →
  Calls Try.prog 50 #[.agg cs.toArray, .string t, .slice p s.length cap] w (RGot Wc w (f (nats t) s))
theorem refIn_plain (p : Nat → Bool) (w : World) {k : Int} {z : Nat} (hk : fits64 k) (hz : z < 256) : RefIn p w (.mk k z []) [.int .i64 k, .int .u8 z, .slice none 0 0] := at_plain hk hz
theorem refIn_below {B : Nat} {w w' : World} {x : Vl} {cs : List Value} (h : RefIn (fromV B) w x cs) (hb : Below w.heap.size w w') : RefIn (fromV B) w' x cs :=
  h.mono hb.size fun k h1 h2 => ⟨h1, hb.block k h2⟩
theorem refIn_only {B c : Nat} {w w' : World} {x : Vl} {cs : List Value} (h : RefIn (fromV B) w x cs) (ho : Only c w w') (hc : c < B) : RefIn (fromV B) w' x cs :=
  h.mono (Nat.le_of_eq ho.size.symm) fun k h1 _ => ⟨h1, ho.block k (by have := of_decide_eq_true h1; omega)⟩
theorem refIn_from {B C : Nat} {w : World} {x : Vl} {cs : List Value} (h : RefIn (fromV B) w x cs) (hc : C ≤ B) : RefIn (fromV C) w x cs :=
  h.mono (Nat.le_refl _) fun k h1 _ => ⟨decide_eq_true (by have := of_decide_eq_true h1; omega), rfl⟩
/-- one element -/
theorem refIn_row1 {B g : Nat} {w : World} {k : Int} {x : Vl} {rs : List Value} (hk : fits64 k) (hx : RefIn (fromV B) w x rs) (hg : RBox w g rs.toArray) (hB : B ≤ g) : RefIn (fromV B) w (.mk k 0 [x]) [.int .i64 k, .int .u8 0, .slice (some ⟨g, 0, none⟩) 1 1] := by
  unfold RefIn
  rw [at_mk]
  refine ⟨hk, by decide, some ⟨g, 0, none⟩, 1, rfl, by show 1 ≤ maxLen; decide, .inr ⟨g, 0, rfl, Nat.le_refl _, by rw [veil_size]; exact hg.lt, ?_⟩⟩
  rw [valsAt_cons, valsAt_nil]
  refine ⟨⟨rs, refIn_len hx, fun q _ => ?_, hx⟩, trivial⟩
  rw [World.cell?_of_block (veil_block (decide_eq_true hB)), cells_at hg, Nat.zero_add]
  simp
/-- two elements -/
theorem refIn_row2 {B g : Nat} {w : World} {k : Int} {x y : Vl} {rs us : List Value} (hk : fits64 k) (hx : RefIn (fromV B) w x rs) (hy : RefIn (fromV B) w y us) (hg : RBox w g (rs ++ us).toArray) (hB : B ≤ g) : RefIn (fromV B) w (.mk k 0 [x, y]) [.int .i64 k, .int .u8 0, .slice (some ⟨g, 0, none⟩) 2 2] := by
  unfold RefIn
  have hr := refIn_len hx
  have hu := refIn_len hy
  rw [at_mk]
  refine ⟨hk, by decide, some ⟨g, 0, none⟩, 2, rfl, by show 2 ≤ maxLen; decide, .inr ⟨g, 0, rfl, Nat.le_refl _, by rw [veil_size]; exact hg.lt, ?_⟩⟩
  rw [valsAt_cons, valsAt_cons, valsAt_nil]
  refine ⟨⟨rs, hr, fun q hq => ?_, hx⟩, ⟨us, hu, fun q hq => ?_, hy⟩, trivial⟩
  · rw [World.cell?_of_block (veil_block (decide_eq_true hB)), cells_at hg, Nat.zero_add, List.getElem?_toArray, List.getElem?_append_left (by omega)]
  · rw [World.cell?_of_block (veil_block (decide_eq_true hB)), cells_at hg, Nat.zero_add, List.getElem?_toArray, List.getElem?_append_right (by omega)]
    congr 1
    omega
theorem wpList_store_rv {ops : Array Oper} {rest : List Oper} {o : Oper} {a : Act} {w : World} {Q : Exit → Act → World → Prop} (hgd : o.guard = none) (x y : Operand) (ho : o.op = .store 47 x y) (b : Nat) (cs ds : Array Value) (hx : a.eval x = .pointer (some ⟨b, 0, none⟩)) (hy : a.eval y = .agg ds)
    (hb : RBox w b cs) (hd : ds.size = 3) (hc : cs.size = 3) (h1 : (ds.all fun x => x.oneCell') = true) (h : ∀ w', RBox w' b ds → Only b w w' → wpList Try.prog ops Q rest (a.put o.dst undef) w') : wpList Try.prog ops Q (o :: rest) a w :=
  wpList_store_row hgd _ _ _ ho b _ hx hy _ _ hb (infoRefVal' hd) (by rw [hd, hc]) h1 (h _ (setRow_heap w b _ _ _ _ hb) (only_row _ _ _))
theorem wpList_build_rv1 {ops : Array Oper} {rest : List Oper} {o : Oper} {a : Act} {w : World} {Q : Exit → Act → World → Prop} (hgd : o.guard = none) (x : Operand) (ho : o.op = .buildSlice 45 1 #[(0, x)]) (rs : List Value) (hrs : rs.length = 3) (hx : a.eval x = .agg rs.toArray)
    (h : ∀ w', RBox w' w.heap.size rs.toArray → Below w.heap.size w w' → w'.heap.size = w.heap.size + 1 → wpList Try.prog ops Q rest (a.put o.dst (.slice (some ⟨w.heap.size, 0, none⟩) 1 1)) w') : wpList Try.prog ops Q (o :: rest) a w :=
  wpList_plain hgd fun _ hK => wp_build_refrow x ho rs hrs hx (hK _ _ (h _ (rbox_start _ _) (K.alloc_below _ _) (by simp)))
theorem fill_refval2 (rs us : List Value) (h : rs.length = 3) (hu : us.length = 3) (Z : Array Value) (hZ : Z.size = 6) : Instr.fill (fun i => some (i * 3, 3)) Z [(0, .agg rs.toArray), (1, .agg us.toArray)] = some (rs ++ us).toArray := by
  obtain ⟨r0, r1, r2, rfl⟩ : ∃ a b c, rs = [a, b, c] := by
    match rs, h with
    | [a, b, c], _ => exact ⟨a, b, c, rfl⟩
  obtain ⟨u0, u1, u2, rfl⟩ : ∃ a b c, us = [a, b, c] := by
    match us, hu with
    | [a, b, c], _ => exact ⟨a, b, c, rfl⟩
  obtain ⟨Z⟩ := Z
  match Z, hZ with
  | [z0, z1, z2, z3, z4, z5], _ => rfl
theorem build_refrow2 (w : World) (rs us : List Value) (h : rs.length = 3) (hu : us.length = 3) : (Instr.buildSlice 45 2 #[(0, .agg rs.toArray), (1, .agg us.toArray)]).run Try.prog w = .ok (.slice (some ⟨w.heap.size, 0, none⟩) 2 2) (w.alloc (.cells (rs ++ us).toArray 47)) := by
  obtain ⟨i0, hi, hz0, hz1, hz2⟩ := info_parts info_refval
  have hZ : (((Array.range 6).map fun i => (Value.agg zero3).cells[i % (Value.agg zero3).cells.size]!)).size = 6 := by simp
  have hf := fill_refval2 rs us h hu _ hZ
  unfold Instr.buildSlice
  simp only [Sem.run_bind, run_underlying Try.underlying45, Result.andThen_ok, sizeOf, typeInfo, Sem.run_pure]
  have hf' : Instr.fill (fun i => some (i * 3, 3)) (Array.map (fun x => (Value.agg #[.int .i64 0, .int .u8 0, .slice none 0 0]).cells[x % (Value.agg #[.int .i64 0, .int .u8 0, .slice none 0 0]).cells.size]!) (Array.range 6)) [(0, .agg rs.toArray), (1, .agg us.toArray)] = some (rs ++ us).toArray := hf
  simp [newRow, hi, hz1]
  rw [hf']
  simp
theorem wpList_build_rv2 {ops : Array Oper} {rest : List Oper} {o : Oper} {a : Act} {w : World} {Q : Exit → Act → World → Prop} (hgd : o.guard = none) (x y : Operand) (ho : o.op = .buildSlice 45 2 #[(0, x), (1, y)]) (rs us : List Value) (hrs : rs.length = 3) (hus : us.length = 3) (hx : a.eval x = .agg rs.toArray) (hy : a.eval y = .agg us.toArray)
    (h : ∀ w', RBox w' w.heap.size (rs ++ us).toArray → Below w.heap.size w w' → w'.heap.size = w.heap.size + 1 → wpList Try.prog ops Q rest (a.put o.dst (.slice (some ⟨w.heap.size, 0, none⟩) 2 2)) w') : wpList Try.prog ops Q (o :: rest) a w :=
  wpList_plain hgd fun _ hK => by
    have hm : (#[(0, x), (1, y)] : Array (Nat × Operand)).map (fun (i, x) => (i, a.eval x)) = #[(0, .agg rs.toArray), (1, .agg us.toArray)] := by simp [hx, hy]
    unfold Oper.wp execOp
    simp only [ho, hm, Sem.run_bind, Sem.run_pure, build_refrow2 w rs us hrs hus, Result.andThen_ok]
    exact hK _ _ (h _ (rbox_start _ _) (K.alloc_below _ _) (by simp))
theorem results_got {fn : Func} {p u v x : Tmp} (h : fn.results = #[.cell p 47, .tmp u, .tmp v, .tmp x]) (tmps : Array Value) (w : World) (b : Nat) (cs : Array Value) (hp : tmps.getD p undef = .pointer (some ⟨b, 0, none⟩)) (h0 : RBox w b cs) (hc : cs.size = 3) :
    (results fn tmps).run Try.prog w = .ok (.tuple #[.agg cs, tmps.getD u undef, tmps.getD v undef, tmps.getD x undef]) w := by
  have hp' : tmps[p]?.getD undef = .pointer (some ⟨b, 0, none⟩) := by simpa [Array.getD_eq_getD_getElem?] using hp
  simp [results, h, hp', asAddr, run_loadVar_row w b _ _ cs _ _ h0 Try.underlying47 rfl (infoRefVal' hc)]
theorem bytes_empty {t : ByteArray} (h : nats t = []) : t = ⟨#[]⟩ := by
  have h1 := nats_length t
  rw [h] at h1
  exact ByteArray.ext (Array.eq_empty_of_size_eq_zero h1.symm)
def oneOf (k : Int) : Option (Vl × List Nat × List Nat) → Option (Vl × List Nat × List Nat)
  | none => none
  | some (x, b1, s1) => some (.mk k 0 [x], b1, s1)
def twoOf (x : Vl) : Option (Vl × List Nat × List Nat) → Option (Vl × List Nat × List Nat)
  | none => none
  | some (y, b2, s2) => some (.mk 3 0 [x, y], b2, s2)
/-- the two blocks that a reading begins with -/
structure Twain (w W : World) (cs : List Value) : Prop where
  bel : Below w.heap.size w W
  size : W.heap.size = w.heap.size + 1 + 1
  core : W.heap[w.heap.size]? = some (.cells cs.toArray 54)
  box : RBox W (w.heap.size + 1) #[.int .i64 0, .int .u8 0, .slice none 0 0]
theorem twain (w : World) (cs : List Value) : Twain w ((w.alloc (.cells cs.toArray 54)).alloc (.cells #[.int .i64 0, .int .u8 0, .slice none 0 0] 47)) cs := by
  refine ⟨((Below.refl _ _).alloc (Nat.le_refl _) _).alloc (by simp) _, by simp, (Below.heap_alloc _ _ _ (by simp)).trans (World.alloc_heap_new w _), ?_⟩
  have h := rbox_start (w.alloc (.cells cs.toArray 54)) #[.int .i64 0, .int .u8 0, .slice none 0 0]
  rw [World.size_alloc] at h
  exact h
/-- nothing is got -/
theorem rgot_none {Wc w W wr w5 : World} {cs : List Value} {k : Int} {z : Nat} {a : Option Addr} {len cap : Nat} {t : ByteArray} {p : Option Addr} {n c : Nat} (hT : Twain w W cs) (hb : Below W.heap.size W wr) (ho : Only (w.heap.size + 1) wr w5) :
    RGot Wc w none (.returned (.tuple #[.agg #[.int .i64 k, .int .u8 z, .slice a len cap], .string t, .slice p n c, .bool false])) w5 :=
  ⟨k, z, a, len, cap, t, p, n, c, rfl, ho.below (hT.bel.trans (hb.mono hT.bel.size)) (by omega), fun v b2 s2 e => by cases e⟩
theorem rgot_some {Wc w W wr w5 : World} {cs : List Value} {k : Int} {z : Nat} {a : Option Addr} {len cap : Nat} {t : ByteArray} {p : Option Addr} {n c : Nat} {v : Vl} {s2 : List Nat} (hT : Twain w W cs) (hb : Below W.heap.size W wr) (ho : Only (w.heap.size + 1) wr w5)
    (hv : RefIn (fromV W.heap.size) wr v [.int .i64 k, .int .u8 z, .slice a len cap]) (ht : t.size ≤ 9223372036854775807) (hs : BytesS Wc p n c s2) :
    RGot Wc w (some (v, nats t, s2)) (.returned (.tuple #[.agg #[.int .i64 k, .int .u8 z, .slice a len cap], .string t, .slice p n c, .bool true])) w5 :=
  ⟨k, z, a, len, cap, t, p, n, c, rfl, ho.below (hT.bel.trans (hb.mono hT.bel.size)) (by omega), fun v' b2 s' e => by
    injection e with e
    injection e with e1 e
    injection e with e2 e3
    subst e1 e2 e3
    exact ⟨refIn_from (refIn_only hv ho (by have := hT.size; omega)) hT.bel.size, rfl, ht, hs⟩⟩
/-- the same is got -/
theorem rgot_same {Wc w W w3 w5 : World} {cs : List Value} {k : Int} {z : Nat} {a : Option Addr} {len cap : Nat} {t : ByteArray} {p : Option Addr} {n c : Nat} {r : Option (Vl × List Nat × List Nat)} (hT : Twain w W cs) (hb : Below W.heap.size W w3) (ho : Only (w.heap.size + 1) w3 w5)
    (hq : ∀ v b2 s2, r = some (v, b2, s2) → RefIn (fromV W.heap.size) w3 v [.int .i64 k, .int .u8 z, .slice a len cap] ∧ nats t = b2 ∧ t.size ≤ 9223372036854775807 ∧ BytesS Wc p n c s2) :
    RGot Wc w r (.returned (.tuple #[.agg #[.int .i64 k, .int .u8 z, .slice a len cap], .string t, .slice p n c, .bool r.isSome])) w5 := by
  cases r with
  | none => exact rgot_none hT hb ho
  | some q =>
    obtain ⟨v, b2, s2⟩ := q
    obtain ⟨h1, rfl, h3, h4⟩ := hq _ _ _ rfl
    exact rgot_some hT hb ho h1 h3 h4
theorem RBox.box {w W wr : World} {cs : List Value} (hT : Twain w W cs) (hb : Below W.heap.size W wr) : RBox wr (w.heap.size + 1) #[.int .i64 0, .int .u8 0, .slice none 0 0] := hT.box.below hb (by have := hT.size; omega)
end V
end Go.Proofs.Ytklmomgccmekkaa
namespace Go.Proofs.Ytklmomgccmekkaa
namespace V
set_option maxRecDepth 100000
open Go.RowKit
theorem quiet_load_byte {o : Oper} {a : Act} {C : World → Prop} {K : Act → Prop} (x : Operand) (ho : o.op = .load 5 x) (p : Addr) (v : Value) (hx : a.eval x = .pointer (some p)) (h : ∀ w, C w → w.cell? p = some v)
    (hK : K (a.put o.dst v)) : o.quiet Try.prog a C K :=
  ⟨v, fun w hw => by
    have hc := h w hw
    unfold Oper.quietAt execOp
    simp only [ho, hx, Instr.loadAt, Instr.sureAddr, Sem.run_bind, Sem.run_pure, Result.andThen_ok]
    simp [loadVar, isAgg, run_underlying Try.underlying5, hc]
    exact ⟨rfl, rfl⟩, hK⟩
theorem quiet_index_bytes {o : Oper} {a : Act} {C : World → Prop} {K : Act → Prop} (x y : Operand) (ho : o.op = .indexAddr 39 x y) (b off n c : Nat) (hx : a.eval x = .slice (some ⟨b, off, none⟩) n c) (hy : a.eval y = .int .i64 0) (hn : 0 < n)
    (hK : K (a.put o.dst (.pointer (some ⟨b, off, none⟩)))) : o.quiet Try.prog a C K := by
  obtain ⟨i0, hi, hz0, hz1, hz2⟩ := info_parts info_u8
  refine ⟨.pointer (some ⟨b, off, none⟩), fun w _ => ?_, hK⟩
  unfold Oper.quietAt execOp
  simp only [ho, hx, hy, Sem.run_bind, Sem.run_pure]
  simp [Instr.indexAt, asIntOf, run_underlying Try.underlying39, sizeOf, typeInfo, hi, Addr.add, hn]
  exact ⟨rfl, rfl⟩
theorem build_kz (k : Int) (z : Nat) (w : World) : (Instr.build 47 #[(0, .int .i64 k), (1, .int .u8 z)]).run Try.prog w = .ok (.agg #[.int .i64 k, .int .u8 z, .slice none 0 0]) w := by kernel_rfl
theorem quiet_build_kz {o : Oper} {a : Act} {C : World → Prop} {K : Act → Prop} (x y : Operand) (ho : o.op = .build 47 #[(0, x), (1, y)]) (k : Int) (z : Nat) (hx : a.eval x = .int .i64 k) (hy : a.eval y = .int .u8 z)
    (hK : K (a.put o.dst (.agg #[.int .i64 k, .int .u8 z, .slice none 0 0]))) : o.quiet Try.prog a C K :=
  ⟨.agg #[.int .i64 k, .int .u8 z, .slice none 0 0], fun w _ => by
    have hm : (#[(0, x), (1, y)] : Array (Nat × Operand)).map (fun (i, x) => (i, a.eval x)) = #[(0, .int .i64 k), (1, .int .u8 z)] := by simp [hx, hy]
    unfold Oper.quietAt execOp
    simp only [ho, hm, Sem.run_bind, Sem.run_pure, build_kz, Result.andThen_ok]
    exact ⟨rfl, rfl⟩, hK⟩
theorem quiet_tail_bytes {o : Oper} {a : Act} {C : World → Prop} {K : Act → Prop} (x y : Operand) (ho : o.op = .slice 39 x (some y) none none) (b off n c : Nat) (hx : a.eval x = .slice (some ⟨b, off, none⟩) n c) (hy : a.eval y = .int .i64 1) (hn : 1 ≤ n) (hc : n ≤ c)
    (hK : ∀ a', (c = 1 ∨ a' = (⟨b, off + 1, none⟩ : Addr)) → K (a.put o.dst (.slice (some a') (n - 1) (c - 1)))) : o.quiet Try.prog a C K := by
  obtain ⟨i0, hi, hz0, hz1, hz2⟩ := info_parts info_u8
  by_cases h1 : c = 1
  · refine ⟨.slice (some ⟨b, off, none⟩) (n - 1) (c - 1), fun w _ => ?_, hK _ (.inl h1)⟩
    subst h1
    obtain rfl : n = 1 := by omega
    unfold Oper.quietAt execOp
    simp only [ho, hx, hy, Option.map_none, Option.map_some, Sem.run_bind, Sem.run_pure, Result.andThen_ok, Instr.sliceAt, run_underlying Try.underlying39]
    simp [Instr.slice, Instr.sliceBounds, Instr.sliceBound, asIntOf, run_underlying Try.underlying39, sizeOf, typeInfo, hi]
    exact ⟨rfl, rfl⟩
  · refine ⟨.slice (some ⟨b, off + 1, none⟩) (n - 1) (c - 1), fun w _ => ?_, hK _ (.inr rfl)⟩
    have h2 : ¬ c < n := by omega
    have h3 : (1 : Int) ≤ (n : Int) := by omega
    unfold Oper.quietAt execOp
    simp only [ho, hx, hy, Option.map_none, Option.map_some, Sem.run_bind, Sem.run_pure, Result.andThen_ok, Instr.sliceAt, run_underlying Try.underlying39]
    simp [Instr.slice, Instr.sliceBounds, Instr.sliceBound, asIntOf, run_underlying Try.underlying39, sizeOf, typeInfo, hi, hz1, h1, h3, Addr.add]
    exact ⟨rfl, rfl⟩
theorem quiet_tail_str {o : Oper} {a : Act} {C : World → Prop} {K : Act → Prop} (x y : Operand) (ho : o.op = .slice 9 x (some y) none none) (t : ByteArray) (hx : a.eval x = .string t) (hy : a.eval y = .int .i64 1) (h : 1 ≤ t.size)
    (hK : K (a.put o.dst (.string (t.extract 1 t.size)))) : o.quiet Try.prog a C K :=
  ⟨.string (t.extract 1 t.size), fun w _ => by
    have h1 : (0 : Int) ≤ 1 ∧ (1 : Int) ≤ (t.size : Int) := ⟨by omega, by omega⟩
    unfold Oper.quietAt execOp
    simp only [ho, hx, hy, Option.map_none, Option.map_some, Sem.run_bind, Sem.run_pure, Result.andThen_ok, Instr.sliceAt, run_underlying Try.underlying9]
    simp [run_slice_string_from_if w 9 t .i64 1 Try.underlying9, h1]
    exact ⟨rfl, rfl⟩, hK⟩
theorem quiet_load_rcore {o : Oper} {a : Act} {C : World → Prop} {J : Act → Prop} (x : Operand) (ho : o.op = .load 54 x) (b off : Nat) (cs : List Value) (hx : a.eval x = .pointer (some ⟨b, off, none⟩))
    (h : ∀ w, C w → K.RefC w b off cs) (hK : J (a.put o.dst (.agg cs.toArray))) : o.quiet Try.prog a C J :=
  ⟨.agg cs.toArray, fun w hw => by
    unfold Oper.quietAt execOp
    simp only [ho, hx, Instr.loadAt, Instr.sureAddr, Sem.run_bind, Sem.run_pure, Result.andThen_ok, K.loadRefCore (h w hw)]
    exact ⟨rfl, rfl⟩, hK⟩
theorem wp_store_rvk {o : Oper} {a : Act} {w : World} {K : Act → World → Prop} {Q : Exit → Act → World → Prop} (x y : Operand) (ho : o.op = .store 47 x y) (b : Nat) (cs ds : Array Value) (hx : a.eval x = .pointer (some ⟨b, 0, none⟩)) (hy : a.eval y = .agg ds)
    (hb : RBox w b cs) (hd : ds.size = 3) (hc : cs.size = 3) (h1 : (ds.all fun x => x.oneCell') = true) (hK : ∀ w', RBox w' b ds → Only b w w' → K (a.put o.dst undef) w') : o.wp Try.prog a w K Q :=
  wp_store_row _ _ _ ho b _ hx hy _ _ hb (infoRefVal' hd) (by rw [hd, hc]) h1 (hK _ (setRow_heap w b _ _ _ _ hb) (only_row _ _ _))
theorem quiet_load_cores {o : Oper} {a : Act} {C : World → Prop} {K : Act → Prop} (x : Operand) (ho : o.op = .load 52 x) (p : Addr) (v : Value) (hx : a.eval x = .pointer (some p)) (h : ∀ w, C w → w.cell? p = some v)
    (hK : K (a.put o.dst v)) : o.quiet Try.prog a C K :=
  ⟨v, fun w hw => by
    have hc := h w hw
    unfold Oper.quietAt execOp
    simp only [ho, hx, Instr.loadAt, Instr.sureAddr, Sem.run_bind, Sem.run_pure, Result.andThen_ok]
    simp [loadVar, isAgg, run_underlying Try.underlying52, hc]
    exact ⟨rfl, rfl⟩, hK⟩
theorem wp_alloc_rvk {o : Oper} {a : Act} {w : World} {K : Act → World → Prop} {Q : Exit → Act → World → Prop} (ho : o.op = .alloc 47)
    (h : ∀ w', RBox w' w.heap.size #[.int .i64 0, .int .u8 0, .slice none 0 0] → Below w.heap.size w w' → w'.heap.size = w.heap.size + 1 → K (a.put o.dst (.pointer (some ⟨w.heap.size, 0, none⟩))) w') : o.wp Try.prog a w K Q := by
  have hz : (zeroValue 47).run Try.prog w = .ok (.agg #[.int .i64 0, .int .u8 0, .slice none 0 0]) w := by kernel_rfl
  unfold Oper.wp execOp
  simp [ho, Instr.alloc, newVar, hz]
  exact h _ (rbox_start _ _) (_root_.Go.Proofs.Ytklmomgccmekkaa.K.alloc_below _ _) (by simp)
/-- from block B on, but not block b -/
def offB (B b : Nat) : Nat → Bool := fun k => decide (B ≤ k) && decide (k ≠ b)
theorem offB_at {B b k : Nat} : offB B b k = true ↔ B ≤ k ∧ k ≠ b := by unfold offB; simp
theorem off_alloc {B : Nat} {w w' : World} {x : Vl} {rs : List Value} (h : RefIn (fromV B) w x rs) (hb : Below w.heap.size w w') : RefIn (offB B w.heap.size) w' x rs :=
  h.mono hb.size fun k h1 h2 => ⟨offB_at.2 ⟨of_decide_eq_true h1, by omega⟩, hb.block k h2⟩
theorem off_call {B C b : Nat} {w : World} {x : Vl} {rs : List Value} (h : RefIn (fromV C) w x rs) (hB : B ≤ C) (hb : b < C) : RefIn (offB B b) w x rs :=
  h.mono (Nat.le_refl _) fun k h1 _ => ⟨offB_at.2 (by have := of_decide_eq_true h1; exact ⟨by omega, by omega⟩), rfl⟩
theorem off_store {B b : Nat} {w w' : World} {x : Vl} {rs : List Value} (h : RefIn (offB B b) w x rs) (ho : Only b w w') : RefIn (fromV B) w' x rs :=
  h.mono (Nat.le_of_eq ho.size.symm) fun k h1 _ => ⟨decide_eq_true (offB_at.1 h1).1, ho.block k (offB_at.1 h1).2⟩
end V
end Go.Proofs.Ytklmomgccmekkaa
namespace Go.Proofs.Ytklmomgccmekkaa
namespace V
set_option maxRecDepth 100000
open Go.RowKit
open K (veil veil_size veil_block veil_cell)
set_option maxHeartbeats 16000000 in
theorem rg_0 {Wc : World} (st : BitVec 256) (n : Int) (cs : List Value) (hat : K.Cr.ref Wc (.mk 0 st n []) cs) : RGotOk Wc (gotT 0 st ([].map got)) cs := by
  intro t s p cap w hb ht hs
  rw [K.refc_mk] at hat
  obtain ⟨_, _, a, cap0, rfl, hmax, hl⟩ := hat
  replace hl := (show 0 = 0 ∨ _ from hl)
  replace hmax : 0 ≤ maxLen := hmax
  clear hl hmax
  obtain ⟨W, hW⟩ : ∃ W, W = (w.alloc (.cells (K.rcCells 0 st n (.slice a 0 cap0)).toArray 54)).alloc (.cells #[.int .i64 0, .int .u8 0, .slice none 0 0] 47) := ⟨_, rfl⟩
  have hT : Twain w W (K.rcCells 0 st n (.slice a 0 cap0)) := by rw [hW]; exact twain _ _
  have hcc := K.ccells_box hT.core
  have p0 : W.cell? ⟨w.heap.size, 0, none⟩ = some (.int .i64 0) := hcc.c0
  have hbW : Below Wc.heap.size Wc W := hb.trans (hT.bel.mono hb.size)
  have HC := Lib.hid hcc
  have hmx : (s.length : Int) ≤ 9223372036854775807 := by have := hs.2; omega
  show Calls _ _ _ _ (RGot Wc w none)
  generalize K.rcCells 0 st n (.slice a 0 cap0) = C at hW hT ⊢
  have HT := Lib.hid hT
  have HbW := Lib.hid hbW
  have Ht := Lib.hid ht
  have Hs := Lib.hid hs
  clear hT hcc hb hbW ht hs
  go_enter Try.func50, Try.ntmps50
  go_upto_region 1 with (first
    | (refine Go.Great.wpList_boxTo rfl _ _ rfl _ rfl w.heap.size rfl C.toArray rfl ?_)
    | fail)
  rw [← hW]
  clear hW
  go_wp2_with (first
    | (refine wpList_store_rv rfl _ _ rfl (w.heap.size + 1) _ #[.int .i64 0, .int .u8 0, .slice none 0 0] rfl rfl HT.out.box rfl rfl (by simp [Value.oneCell']) ?_; intro w5 hn5 ho5; have H5 := Lib.hid (And.intro hn5 ho5); clear hn5 ho5)
    | fail)
  refine bodyPost_ret (results_got rfl _ _ (w.heap.size + 1) _ rfl H5.out.1 rfl) rfl ?_
  exact rgot_none HT.out (Below.refl _ _) H5.out.2

set_option maxHeartbeats 16000000 in
theorem rg_1 {Wc : World} (st : BitVec 256) (n : Int) (cs : List Value) (hat : K.Cr.ref Wc (.mk 1 st n []) cs) : RGotOk Wc (gotT 1 st ([].map got)) cs := by
  intro t s p cap w hb ht hs
  rw [K.refc_mk] at hat
  obtain ⟨_, _, a, cap0, rfl, hmax, hl⟩ := hat
  replace hl := (show 0 = 0 ∨ _ from hl)
  replace hmax : 0 ≤ maxLen := hmax
  clear hl hmax
  obtain ⟨W, hW⟩ : ∃ W, W = (w.alloc (.cells (K.rcCells 1 st n (.slice a 0 cap0)).toArray 54)).alloc (.cells #[.int .i64 0, .int .u8 0, .slice none 0 0] 47) := ⟨_, rfl⟩
  have hT : Twain w W (K.rcCells 1 st n (.slice a 0 cap0)) := by rw [hW]; exact twain _ _
  have hcc := K.ccells_box hT.core
  have p0 : W.cell? ⟨w.heap.size, 0, none⟩ = some (.int .i64 1) := hcc.c0
  have hbW : Below Wc.heap.size Wc W := hb.trans (hT.bel.mono hb.size)
  have HC := Lib.hid hcc
  have hmx : (s.length : Int) ≤ 9223372036854775807 := by have := hs.2; omega
  show Calls _ _ _ _ (RGot Wc w (some (.mk 1 0 [], nats t, s)))
  generalize K.rcCells 1 st n (.slice a 0 cap0) = C at hW hT ⊢
  have HT := Lib.hid hT
  have HbW := Lib.hid hbW
  have Ht := Lib.hid ht
  have Hs := Lib.hid hs
  clear hT hcc hb hbW ht hs
  go_enter Try.func50, Try.ntmps50
  go_upto_region 1 with (first
    | (refine Go.Great.wpList_boxTo rfl _ _ rfl _ rfl w.heap.size rfl C.toArray rfl ?_)
    | fail)
  rw [← hW]
  clear hW
  go_wp2_with (first
    | (refine wpList_store_rv rfl _ _ rfl (w.heap.size + 1) _ #[.int .i64 1, .int .u8 0, .slice none 0 0] rfl rfl HT.out.box rfl rfl (by simp [Value.oneCell']) ?_; intro w5 hn5 ho5; have H5 := Lib.hid (And.intro hn5 ho5); clear hn5 ho5)
    | fail)
  refine bodyPost_ret (results_got rfl _ _ (w.heap.size + 1) _ rfl H5.out.1 rfl) rfl ?_
  exact rgot_some HT.out (Below.refl _ _) H5.out.2 (refIn_plain _ _ rfl (by decide)) Ht.out Hs.out

set_option maxHeartbeats 16000000 in
theorem rg_7 {Wc : World} (st : BitVec 256) (n : Int) (c0 : K.Cr) (cs : List Value) (hat : K.Cr.ref Wc (.mk 7 st n [c0]) cs) (ih0 : ∀ cs, K.Cr.ref Wc c0 cs → RGotOk Wc (got c0) cs) : RGotOk Wc (gotT 7 st ([c0].map got)) cs := by
  intro t s p cap w hb ht hs
  rw [K.refc_mk] at hat
  obtain ⟨_, _, a, cap0, rfl, hmax, hl⟩ := hat
  replace hl := (show 1 = 0 ∨ _ from hl)
  replace hmax : 1 ≤ maxLen := hmax
  obtain ⟨cb, coff, rfl, hcap, hcb, hcr⟩ := hl.resolve_left (by decide)
  obtain ⟨es0, hes0, hcell0, hch0⟩ := K.coresRef_get Wc cb [c0] coff hcr 0 (by simp)
  have HE0 := Lib.hid (fun (w' : World) (h : Below Wc.heap.size Wc w') => (⟨hes0, fun q hq => by rw [h.cell (p := ⟨cb, coff + 0 + q, none⟩) hcb]; exact hcell0 q hq⟩ : K.RefC w' cb (coff + 0) es0))
  have HI0 := Lib.hid (ih0 es0 hch0)
  clear hcell0 hch0 hes0 ih0
  clear hcr hl hcb hcap hmax
  obtain ⟨W, hW⟩ : ∃ W, W = (w.alloc (.cells (K.rcCells 7 st n (.slice (some ⟨cb, coff, none⟩) 1 cap0)).toArray 54)).alloc (.cells #[.int .i64 0, .int .u8 0, .slice none 0 0] 47) := ⟨_, rfl⟩
  have hT : Twain w W (K.rcCells 7 st n (.slice (some ⟨cb, coff, none⟩) 1 cap0)) := by rw [hW]; exact twain _ _
  have hcc := K.ccells_box hT.core
  have p0 : W.cell? ⟨w.heap.size, 0, none⟩ = some (.int .i64 7) := hcc.c0
  have p258 : W.cell? ⟨w.heap.size, 258, none⟩ = some (.slice (some ⟨cb, coff, none⟩) 1 cap0) := hcc.c258
  have hbW : Below Wc.heap.size Wc W := hb.trans (hT.bel.mono hb.size)
  have HC := Lib.hid hcc
  have hmx : (s.length : Int) ≤ 9223372036854775807 := by have := hs.2; omega
  obtain ⟨r, hr⟩ : ∃ r, r = got c0 (nats t) s := ⟨_, rfl⟩
  show Calls _ _ _ _ (RGot Wc w (got c0 (nats t) s))
  have Hc := Lib.hid (HI0.out t s p cap W hbW ht hs)
  rw [← hr] at Hc ⊢
  clear hr
  generalize K.rcCells 7 st n (.slice (some ⟨cb, coff, none⟩) 1 cap0) = C at hW hT ⊢
  have HT := Lib.hid hT
  have HbW := Lib.hid hbW
  have Ht := Lib.hid ht
  have Hs := Lib.hid hs
  clear hT hcc hb hbW ht hs
  go_enter Try.func50, Try.ntmps50
  go_upto_region 1 with (first
    | (refine Go.Great.wpList_boxTo rfl _ _ rfl _ rfl w.heap.size rfl C.toArray rfl ?_)
    | fail)
  rw [← hW]
  clear hW
  go_wp2_with (first
    | (refine K.wpList_load_refcore rfl _ rfl cb (coff + 0) es0 rfl (HE0.out _ HbW.out) ?_)
    | fail)
  refine Hc.out.mono ?_
  rintro e w3 ⟨kx, zx, ax, lenx, capx, t3, p3, n3, c3, rfl, hb3, hq⟩
  have H3 := Lib.hid (And.intro hb3 hq)
  clear hb3 hq
  go_wp2_with (first
    | (refine wpList_store_rv rfl _ _ rfl (w.heap.size + 1) _ #[.int .i64 kx, .int .u8 zx, .slice ax lenx capx] rfl rfl (RBox.box HT.out H3.out.1) rfl rfl (by simp [Value.oneCell']) ?_; intro w5 hn5 ho5; have H5 := Lib.hid (And.intro hn5 ho5); clear hn5 ho5)
    | fail)
  refine bodyPost_ret (results_got rfl _ _ (w.heap.size + 1) _ rfl H5.out.1 rfl) rfl ?_
  exact rgot_same HT.out H3.out.1 H5.out.2 H3.out.2

set_option maxHeartbeats 16000000 in
theorem rg_6 {Wc : World} (st : BitVec 256) (n : Int) (c0 : K.Cr) (cs : List Value) (hat : K.Cr.ref Wc (.mk 6 st n [c0]) cs) (ih0 : ∀ cs, K.Cr.ref Wc c0 cs → RGotOk Wc (got c0) cs) : RGotOk Wc (gotT 6 st ([c0].map got)) cs := by
  intro t s p cap w hb ht hs
  rw [K.refc_mk] at hat
  obtain ⟨_, _, a, cap0, rfl, hmax, hl⟩ := hat
  replace hl := (show 1 = 0 ∨ _ from hl)
  replace hmax : 1 ≤ maxLen := hmax
  obtain ⟨cb, coff, rfl, hcap, hcb, hcr⟩ := hl.resolve_left (by decide)
  obtain ⟨es0, hes0, hcell0, hch0⟩ := K.coresRef_get Wc cb [c0] coff hcr 0 (by simp)
  have HE0 := Lib.hid (fun (w' : World) (h : Below Wc.heap.size Wc w') => (⟨hes0, fun q hq => by rw [h.cell (p := ⟨cb, coff + 0 + q, none⟩) hcb]; exact hcell0 q hq⟩ : K.RefC w' cb (coff + 0) es0))
  have HI0 := Lib.hid (ih0 es0 hch0)
  clear hcell0 hch0 hes0 ih0
  clear hcr hl hcb hcap hmax
  obtain ⟨W, hW⟩ : ∃ W, W = (w.alloc (.cells (K.rcCells 6 st n (.slice (some ⟨cb, coff, none⟩) 1 cap0)).toArray 54)).alloc (.cells #[.int .i64 0, .int .u8 0, .slice none 0 0] 47) := ⟨_, rfl⟩
  have hT : Twain w W (K.rcCells 6 st n (.slice (some ⟨cb, coff, none⟩) 1 cap0)) := by rw [hW]; exact twain _ _
  have hcc := K.ccells_box hT.core
  have p0 : W.cell? ⟨w.heap.size, 0, none⟩ = some (.int .i64 6) := hcc.c0
  have p258 : W.cell? ⟨w.heap.size, 258, none⟩ = some (.slice (some ⟨cb, coff, none⟩) 1 cap0) := hcc.c258
  have hbW : Below Wc.heap.size Wc W := hb.trans (hT.bel.mono hb.size)
  have HC := Lib.hid hcc
  have hmx : (s.length : Int) ≤ 9223372036854775807 := by have := hs.2; omega
  obtain ⟨r, hr⟩ : ∃ r, r = got c0 (nats t) s := ⟨_, rfl⟩
  show Calls _ _ _ _ (RGot Wc w (oneT (got c0) 7 (nats t) s))
  obtain ⟨R, hR⟩ : ∃ R, R = oneT (got c0) 7 (nats t) s := ⟨_, rfl⟩
  rw [← hR]
  unfold oneT at hR
  have Hc := Lib.hid (HI0.out t s p cap W hbW ht hs)
  rw [← hr] at Hc hR
  have HR := Lib.hid hR
  clear hr hR
  generalize K.rcCells 6 st n (.slice (some ⟨cb, coff, none⟩) 1 cap0) = C at hW hT ⊢
  have HT := Lib.hid hT
  have HbW := Lib.hid hbW
  have Ht := Lib.hid ht
  have Hs := Lib.hid hs
  clear hT hcc hb hbW ht hs
  go_enter Try.func50, Try.ntmps50
  go_upto_region 1 with (first
    | (refine Go.Great.wpList_boxTo rfl _ _ rfl _ rfl w.heap.size rfl C.toArray rfl ?_)
    | fail)
  rw [← hW]
  clear hW
  go_wp2_with (first
    | (refine K.wpList_load_refcore rfl _ rfl cb (coff + 0) es0 rfl (HE0.out _ HbW.out) ?_)
    | fail)
  refine Hc.out.mono ?_
  rintro e w3 ⟨kx, zx, ax, lenx, capx, t3, p3, n3, c3, rfl, hb3, hq⟩
  obtain ⟨w4, hw4⟩ : ∃ w4, w4 = w3.alloc (.cells #[.int .i64 kx, .int .u8 zx, .slice ax lenx capx] 47) := ⟨_, rfl⟩
  have hb4 : Below W.heap.size W w4 := by rw [hw4]; exact hb3.alloc hb3.size _
  have hx4 : RBox w4 w3.heap.size #[.int .i64 kx, .int .u8 zx, .slice ax lenx capx] := by rw [hw4]; exact rbox_start w3 _
  have hs4 : w4.heap.size = w3.heap.size + 1 := by rw [hw4]; simp
  have hq4 := fun v b2 s2 e => refIn_below (hq v b2 s2 e).1 (by rw [hw4]; exact K.alloc_below w3 _ : Below w3.heap.size w3 w4)
  have H3 := Lib.hid (And.intro hb3 hq)
  have H4 := Lib.hid (And.intro hb4 (And.intro hq4 hs4))
  have Hx4 := Lib.hid (rval3_in (cs := [.int .i64 kx, .int .u8 zx, .slice ax lenx capx]) hx4 rfl)
  clear hb3 hq hb4 hx4 hs4 hq4
  go_upto_region 33 with fail
  rw [← hw4]
  clear hw4
  go_wp2_with (first
    | (refine wpList_load_refval rfl _ rfl w3.heap.size 0 _ rfl Hx4.out ?_)
    | (refine wpList_build_rv1 rfl _ rfl [.int .i64 kx, .int .u8 zx, .slice ax lenx capx] rfl rfl ?_; intro w6 hn6 hb6 hs6; have H6 := Lib.hid (And.intro hn6 (And.intro hb6 (And.intro hs6 (H4.out.1.trans (hb6.mono H4.out.1.size))))); clear hn6 hb6 hs6)
    | (refine wpList_store_rv rfl _ _ rfl (w.heap.size + 1) _ #[.int .i64 7, .int .u8 0, .slice (some ⟨w4.heap.size, 0, none⟩) 1 1] rfl rfl (RBox.box HT.out H6.out.2.2.2) rfl rfl (by simp [Value.oneCell']) ?_; intro w5 hn5 ho5; have H5 := Lib.hid (And.intro hn5 ho5); clear hn5 ho5)
    | fail)
  refine bodyPost_ret (results_got rfl _ _ (w.heap.size + 1) _ rfl H5.out.1 rfl) rfl ?_
  rw [HR.out]
  cases r with
  | none => exact rgot_none HT.out H6.out.2.2.2 H5.out.2
  | some q =>
    obtain ⟨v, b2, s2⟩ := q
    obtain ⟨_, rfl, h3, h4⟩ := H3.out.2 _ _ _ rfl
    exact rgot_some HT.out H6.out.2.2.2 H5.out.2 (refIn_row1 rfl (refIn_below (H4.out.2.1 _ _ _ rfl) H6.out.2.1) H6.out.1 (by have := H4.out.2.2; have := H3.out.1.size; omega)) h3 h4

set_option maxHeartbeats 16000000 in
theorem rg_2 {Wc : World} (st : BitVec 256) (n : Int) (cs : List Value) (hat : K.Cr.ref Wc (.mk 2 st n []) cs) : RGotOk Wc (gotT 2 st ([].map got)) cs := by
  intro t s p cap w hb ht hs
  rw [K.refc_mk] at hat
  obtain ⟨_, _, a, cap0, rfl, hmax, hl⟩ := hat
  replace hl := (show 0 = 0 ∨ _ from hl)
  replace hmax : 0 ≤ maxLen := hmax
  clear hl hmax
  obtain ⟨W, hW⟩ : ∃ W, W = (w.alloc (.cells (K.rcCells 2 st n (.slice a 0 cap0)).toArray 54)).alloc (.cells #[.int .i64 0, .int .u8 0, .slice none 0 0] 47) := ⟨_, rfl⟩
  have hT : Twain w W (K.rcCells 2 st n (.slice a 0 cap0)) := by rw [hW]; exact twain _ _
  have hcc := K.ccells_box hT.core
  have p0 : W.cell? ⟨w.heap.size, 0, none⟩ = some (.int .i64 2) := hcc.c0
  have hbW : Below Wc.heap.size Wc W := hb.trans (hT.bel.mono hb.size)
  have HC := Lib.hid hcc
  have hmx : (s.length : Int) ≤ 9223372036854775807 := by have := hs.2; omega
  cases s with
  | nil =>
    show Calls _ _ _ _ (RGot Wc w none)
    generalize K.rcCells 2 st n (.slice a 0 cap0) = C at hW hT ⊢
    have HT := Lib.hid hT
    have HbW := Lib.hid hbW
    have Ht := Lib.hid ht
    have Hs := Lib.hid hs
    clear hT hcc hb hbW ht hs
    go_enter Try.func50, Try.ntmps50
    go_upto_region 1 with (first
      | (refine Go.Great.wpList_boxTo rfl _ _ rfl _ rfl w.heap.size rfl C.toArray rfl ?_)
      | fail)
    rw [← hW]
    clear hW
    go_wp2_with (first
      | (refine wpList_store_rv rfl _ _ rfl (w.heap.size + 1) _ #[.int .i64 0, .int .u8 0, .slice none 0 0] rfl rfl HT.out.box rfl rfl (by simp [Value.oneCell']) ?_; intro w5 hn5 ho5; have H5 := Lib.hid (And.intro hn5 ho5); clear hn5 ho5)
      | fail)
    refine bodyPost_ret (results_got rfl _ _ (w.heap.size + 1) _ rfl H5.out.1 rfl) rfl ?_
    exact rgot_none HT.out (Below.refl _ _) H5.out.2

  | cons b q =>
    obtain ⟨e1, hb8, hmx2, pb, off, rfl, hcap, hpb, hcell⟩ := bytes_first hs.1
    have pS : W.cell? ⟨w.heap.size, 1 + b, none⟩ = some (.bool (st.getLsbD b)) := hcc.set b hb8
    have hbi : (b : Int) < 256 := by omega
    have pB : W.cell? ⟨pb, off, none⟩ = some (.int .u8 b) := by rw [hbW.cell (p := ⟨pb, off, none⟩) hpb]; exact hcell
    have Hpb := Lib.hid (show pb < w.heap.size + 1 by have := hb.size; omega)
    have Hb8 := Lib.hid hb8
    obtain ⟨f, hf⟩ : ∃ f, f = st.getLsbD b := ⟨_, rfl⟩
    rw [← hf] at pS
    clear hcell hpb hmx2 e1
    cases f with
    | false =>
      have hr : gotT 2 st (([] : List K.Cr).map got) (nats t) (b :: q) = none := by show (if st.getLsbD b = true then _ else none) = _; rw [← hf]; rfl
      rw [hr]
      clear hr
      clear hf
      rw [List.length_cons] at *
      have g1 : (1 : Int) ≤ ((q.length + 1 : Nat) : Int) := by omega
      have g0 : (0 : Int) < ((q.length + 1 : Nat) : Int) := by omega
      have g0' : 0 < q.length + 1 := by omega
      have ge : decide (((q.length + 1 : Nat) : Int) = 0) = false := decide_eq_false (by omega)
      have ge2 : (((q.length + 1 : Nat) : Int) == 0) = false := by simpa using (show ¬ ((q.length + 1 : Nat) : Int) = 0 by omega)
      generalize hn : q.length + 1 = ln at *
      have Hn := Lib.hid (And.intro hn hcap)
      clear hn hcap
      generalize K.rcCells 2 st n (.slice a 0 cap0) = C at hW hT ⊢
      have HT := Lib.hid hT
      have HbW := Lib.hid hbW
      have Ht := Lib.hid ht
      have Hs := Lib.hid hs
      clear hT hcc hb hbW ht hs
      go_enter Try.func50, Try.ntmps50
      go_upto_region 1 with (first
        | (refine Go.Great.wpList_boxTo rfl _ _ rfl _ rfl w.heap.size rfl C.toArray rfl ?_)
        | fail)
      rw [← hW]
      clear hW
      go_wp2_with (first
        | (refine wpList_store_rv rfl _ _ rfl (w.heap.size + 1) _ #[.int .i64 0, .int .u8 0, .slice none 0 0] rfl rfl HT.out.box rfl rfl (by simp [Value.oneCell']) ?_; intro w5 hn5 ho5; have H5 := Lib.hid (And.intro hn5 ho5); clear hn5 ho5)
        | fail)
      refine bodyPost_ret (results_got rfl _ _ (w.heap.size + 1) _ rfl H5.out.1 rfl) rfl ?_
      exact rgot_none HT.out (Below.refl _ _) H5.out.2

    | true =>
      have hr : gotT 2 st (([] : List K.Cr).map got) (nats t) (b :: q) = some (.mk 2 b [], nats t, q) := by show (if st.getLsbD b = true then _ else none) = _; rw [← hf]; rfl
      rw [hr]
      clear hr
      clear hf
      rw [List.length_cons] at *
      have g1 : (1 : Int) ≤ ((q.length + 1 : Nat) : Int) := by omega
      have g0 : (0 : Int) < ((q.length + 1 : Nat) : Int) := by omega
      have g0' : 0 < q.length + 1 := by omega
      have ge : decide (((q.length + 1 : Nat) : Int) = 0) = false := decide_eq_false (by omega)
      have ge2 : (((q.length + 1 : Nat) : Int) == 0) = false := by simpa using (show ¬ ((q.length + 1 : Nat) : Int) = 0 by omega)
      generalize hn : q.length + 1 = ln at *
      have Hn := Lib.hid (And.intro hn hcap)
      clear hn hcap
      generalize K.rcCells 2 st n (.slice a 0 cap0) = C at hW hT ⊢
      have HT := Lib.hid hT
      have HbW := Lib.hid hbW
      have Ht := Lib.hid ht
      have Hs := Lib.hid hs
      clear hT hcc hb hbW ht hs
      go_enter Try.func50, Try.ntmps50
      go_upto_region 1 with (first
        | (refine Go.Great.wpList_boxTo rfl _ _ rfl _ rfl w.heap.size rfl C.toArray rfl ?_)
        | fail)
      rw [← hW]
      clear hW
      go_wp2_with fail
      obtain ⟨wd, hwd⟩ : ∃ wd, wd = W.drew := ⟨_, rfl⟩
      have hBd : Below W.heap.size W wd := by rw [hwd]; exact (Below.refl _ _).drew
      refine wp_region_hold (fun w' => Below (w.heap.size + 1) W w') (.plain 0 (.plain 1 (.plain 2 (.plain 3 (.plain 4 (.plain 5 (.plain 6 (.sole 7 (.plain 8 (.plain 9 (.plain 10 .done))))))))))) (by rw [← hwd]; exact hBd.mono (by have := HT.out.size; omega)) (by kernel_rfl) (by kernel_rfl) (fun c a d v w h => by cases d <;> exact h) ?_
      rw [← hwd]
      clear hwd
      repeat (first
          | (refine' hold_skip ?_ ?_ ?_
             rotate_left 1
             · simp only [List.getElem?_toArray, List.getElem?_cons_zero, List.getElem?_cons_succ]; exact rfl
             · exact rfl
             simp only [Act.put, List.setIfInBounds_toArray, List.set_cons_zero, List.set_cons_succ])
          | (refine' hold_want ?_ ?_ (fun J hJ => ?_)
             rotate_left 1
             · simp only [List.getElem?_toArray, List.getElem?_cons_zero, List.getElem?_cons_succ]; exact rfl
             · exact rfl
             first
             | (refine quiet_load_byte _ rfl ⟨pb, off, none⟩ (.int .u8 b) rfl (fun w' ⟨L, hL⟩ => ((hL ▸ L.ok : Below (w.heap.size + 1) W w').cell (p := ⟨pb, off, none⟩) Hpb.out).trans pB) ?_; refine hJ _ ?_; clear hJ J; try simp only [Act.put, List.setIfInBounds_toArray, List.set_cons_zero, List.set_cons_succ])
             | (refine quiet_tail_bytes _ _ rfl pb off ln cap rfl rfl (by have := Hn.out; omega) (by have := Hn.out; omega) (fun a' ha' => ?_); refine hJ _ ?_; clear hJ J; try simp only [Act.put, List.setIfInBounds_toArray, List.set_cons_zero, List.set_cons_succ])
             | (refine quiet_index_bytes _ _ rfl pb off ln cap rfl rfl (by have := Hn.out; omega) ?_; refine hJ _ ?_; clear hJ J; try simp only [Act.put, List.setIfInBounds_toArray, List.set_cons_zero, List.set_cons_succ])
             | (refine quiet_build_kz _ _ rfl 2 b rfl rfl ?_; refine hJ _ ?_; clear hJ J; try simp only [Act.put, List.setIfInBounds_toArray, List.set_cons_zero, List.set_cons_succ])
             | (refine quiet_extract _ _ rfl _ _ rfl rfl ?_; refine hJ _ ?_; clear hJ J; try simp only [Act.put, List.setIfInBounds_toArray, List.set_cons_zero, List.set_cons_succ])
             | (go_big_quiet_op; refine hJ _ ?_; clear hJ J; try simp only [Act.put, List.setIfInBounds_toArray, List.set_cons_zero, List.set_cons_succ])))
      refine' hold_sole ?_ ?_ (fun J hJ => ?_)
      rotate_left 1
      · simp only [List.getElem?_toArray, List.getElem?_cons_zero, List.getElem?_cons_succ]; exact rfl
      · exact rfl
      refine wp_store_rvk _ _ rfl (w.heap.size + 1) _ #[.int .i64 2, .int .u8 b, .slice none 0 0] rfl rfl (RBox.box HT.out hBd) rfl rfl (by simp [Value.oneCell']) ?_
      intro w5 hn5 ho5
      have hB5 : Below (w.heap.size + 1) W w5 := ho5.below (hBd.mono (by have := HT.out.size; omega)) (Nat.le_refl _)
      refine hJ _ _ hB5 ?_
      clear hJ J
      have H5 := Lib.hid (And.intro hn5 ho5)
      have HBd := Lib.hid hBd
      clear hn5 ho5 hB5 hBd
      try simp only [Act.put]
      repeat (first
          | (refine' hold_skip ?_ ?_ ?_
             rotate_left 1
             · simp only [List.getElem?_toArray, List.getElem?_cons_zero, List.getElem?_cons_succ]; exact rfl
             · exact rfl
             simp only [Act.put, List.setIfInBounds_toArray, List.set_cons_zero, List.set_cons_succ])
          | (refine' hold_want ?_ ?_ (fun J hJ => ?_)
             rotate_left 1
             · simp only [List.getElem?_toArray, List.getElem?_cons_zero, List.getElem?_cons_succ]; exact rfl
             · exact rfl
             first
             | (refine quiet_load_byte _ rfl ⟨pb, off, none⟩ (.int .u8 b) rfl (fun w' ⟨L, hL⟩ => ((hL ▸ L.ok : Below (w.heap.size + 1) W w').cell (p := ⟨pb, off, none⟩) Hpb.out).trans pB) ?_; refine hJ _ ?_; clear hJ J; try simp only [Act.put, List.setIfInBounds_toArray, List.set_cons_zero, List.set_cons_succ])
             | (refine quiet_tail_bytes _ _ rfl pb off ln cap rfl rfl (by have := Hn.out; omega) (by have := Hn.out; omega) (fun a' ha' => ?_); refine hJ _ ?_; clear hJ J; try simp only [Act.put, List.setIfInBounds_toArray, List.set_cons_zero, List.set_cons_succ])
             | (refine quiet_index_bytes _ _ rfl pb off ln cap rfl rfl (by have := Hn.out; omega) ?_; refine hJ _ ?_; clear hJ J; try simp only [Act.put, List.setIfInBounds_toArray, List.set_cons_zero, List.set_cons_succ])
             | (refine quiet_build_kz _ _ rfl 2 b rfl rfl ?_; refine hJ _ ?_; clear hJ J; try simp only [Act.put, List.setIfInBounds_toArray, List.set_cons_zero, List.set_cons_succ])
             | (refine quiet_extract _ _ rfl _ _ rfl rfl ?_; refine hJ _ ?_; clear hJ J; try simp only [Act.put, List.setIfInBounds_toArray, List.set_cons_zero, List.set_cons_succ])
             | (go_big_quiet_op; refine hJ _ ?_; clear hJ J; try simp only [Act.put, List.setIfInBounds_toArray, List.set_cons_zero, List.set_cons_succ])))
      refine hold_done ?_
      go_wp2_with fail
      refine bodyPost_ret (results_got rfl _ _ (w.heap.size + 1) _ rfl H5.out.1 rfl) rfl ?_
      have hq : BytesS Wc (some a') (ln - 1) (cap - 1) q := by
        have h := Hs.out.1
        have hl := Hs.out.2
        have hn := Hn.out
        obtain ⟨m, rfl⟩ : ∃ m, ln = m + 1 := ⟨q.length, by omega⟩
        exact ⟨bytes_tail h ha' rfl, by rw [List.length_cons] at hl; omega⟩
      exact rgot_some HT.out HBd.out H5.out.2 (refIn_plain _ _ rfl Hb8.out) Ht.out hq



end V
end Go.Proofs.Ytklmomgccmekkaa
namespace Go.Proofs.Ytklmomgccmekkaa
namespace V
set_option maxRecDepth 100000
open Go.RowKit
open K (veil veil_size veil_block veil_cell)
set_option maxHeartbeats 16000000 in
theorem rg_3 {Wc : World} (st : BitVec 256) (n : Int) (c0 : K.Cr) (c1 : K.Cr) (cs : List Value) (hat : K.Cr.ref Wc (.mk 3 st n [c0, c1]) cs) (ih0 : ∀ cs, K.Cr.ref Wc c0 cs → RGotOk Wc (got c0) cs) (ih1 : ∀ cs, K.Cr.ref Wc c1 cs → RGotOk Wc (got c1) cs) : RGotOk Wc (gotT 3 st ([c0, c1].map got)) cs := by
  intro t s p cap w hb ht hs
  rw [K.refc_mk] at hat
  obtain ⟨_, _, a, cap0, rfl, hmax, hl⟩ := hat
  replace hl := (show 2 = 0 ∨ _ from hl)
  replace hmax : 2 ≤ maxLen := hmax
  obtain ⟨cb, coff, rfl, hcap, hcb, hcr⟩ := hl.resolve_left (by decide)
  obtain ⟨es0, hes0, hcell0, hch0⟩ := K.coresRef_get Wc cb [c0, c1] coff hcr 0 (by simp)
  have HE0 := Lib.hid (fun (w' : World) (h : Below Wc.heap.size Wc w') => (⟨hes0, fun q hq => by rw [h.cell (p := ⟨cb, coff + 0 + q, none⟩) hcb]; exact hcell0 q hq⟩ : K.RefC w' cb (coff + 0) es0))
  have HI0 := Lib.hid (ih0 es0 hch0)
  clear hcell0 hch0 hes0 ih0
  obtain ⟨es1, hes1, hcell1, hch1⟩ := K.coresRef_get Wc cb [c0, c1] coff hcr 1 (by simp)
  have HE1 := Lib.hid (fun (w' : World) (h : Below Wc.heap.size Wc w') => (⟨hes1, fun q hq => by rw [h.cell (p := ⟨cb, coff + 259 + q, none⟩) hcb]; exact hcell1 q hq⟩ : K.RefC w' cb (coff + 259) es1))
  have HI1 := Lib.hid (ih1 es1 hch1)
  clear hcell1 hch1 hes1 ih1
  have hcapI : (2 : Int) ≤ (cap0 : Int) := by have h2 : 2 ≤ cap0 := hcap; omega
  clear hcr hl hcb hcap hmax
  obtain ⟨W, hW⟩ : ∃ W, W = (w.alloc (.cells (K.rcCells 3 st n (.slice (some ⟨cb, coff, none⟩) 2 cap0)).toArray 54)).alloc (.cells #[.int .i64 0, .int .u8 0, .slice none 0 0] 47) := ⟨_, rfl⟩
  have hT : Twain w W (K.rcCells 3 st n (.slice (some ⟨cb, coff, none⟩) 2 cap0)) := by rw [hW]; exact twain _ _
  have hcc := K.ccells_box hT.core
  have p0 : W.cell? ⟨w.heap.size, 0, none⟩ = some (.int .i64 3) := hcc.c0
  have p258 : W.cell? ⟨w.heap.size, 258, none⟩ = some (.slice (some ⟨cb, coff, none⟩) 2 cap0) := hcc.c258
  have hbW : Below Wc.heap.size Wc W := hb.trans (hT.bel.mono hb.size)
  have HC := Lib.hid hcc
  have hmx : (s.length : Int) ≤ 9223372036854775807 := by have := hs.2; omega
  obtain ⟨r, hr⟩ : ∃ r, r = got c0 (nats t) s := ⟨_, rfl⟩
  obtain ⟨R, hR⟩ : ∃ R, R = twoT (got c0) (got c1) (nats t) s := ⟨_, rfl⟩
  show Calls _ _ _ _ (RGot Wc w (twoT (got c0) (got c1) (nats t) s))
  rw [← hR]
  unfold twoT at hR
  have Hc := Lib.hid (HI0.out t s p cap W hbW ht hs)
  rw [← hr] at Hc hR
  have HR := Lib.hid hR
  clear hr hR
  generalize K.rcCells 3 st n (.slice (some ⟨cb, coff, none⟩) 2 cap0) = C at hW hT ⊢
  have HT := Lib.hid hT
  have HbW := Lib.hid hbW
  have Ht := Lib.hid ht
  have Hs := Lib.hid hs
  clear hT hcc hb hbW ht hs
  go_enter Try.func50, Try.ntmps50
  go_upto_region 1 with (first
    | (refine Go.Great.wpList_boxTo rfl _ _ rfl _ rfl w.heap.size rfl C.toArray rfl ?_)
    | fail)
  rw [← hW]
  clear hW
  go_wp2_with (first
    | (refine K.wpList_load_refcore rfl _ rfl cb (coff + 0) es0 rfl (HE0.out _ HbW.out) ?_)
    | fail)
  refine Hc.out.mono ?_
  clear Hc
  rintro e w3 ⟨kx, zx, ax, lenx, capx, t3, p3, n3, c3, rfl, hb3, hq⟩
  obtain ⟨w4, hw4⟩ : ∃ w4, w4 = w3.alloc (.cells #[.int .i64 kx, .int .u8 zx, .slice ax lenx capx] 47) := ⟨_, rfl⟩
  have hb4 : Below W.heap.size W w4 := by rw [hw4]; exact hb3.alloc hb3.size _
  have hx4 : RBox w4 w3.heap.size #[.int .i64 kx, .int .u8 zx, .slice ax lenx capx] := by rw [hw4]; exact rbox_start w3 _
  have hs4 : w4.heap.size = w3.heap.size + 1 := by rw [hw4]; simp
  have hq4 := fun v b2 s2 e => refIn_below (hq v b2 s2 e).1 (by rw [hw4]; exact K.alloc_below w3 _ : Below w3.heap.size w3 w4)
  have H3 := Lib.hid (And.intro hb3 hq)
  have H4 := Lib.hid (And.intro hb4 (And.intro hq4 hs4))
  have Hx4 := Lib.hid (rval3_in (cs := [.int .i64 kx, .int .u8 zx, .slice ax lenx capx]) hx4 rfl)
  clear hb3 hq hb4 hx4 hs4 hq4
  go_upto_region 10 with fail
  rw [← hw4]
  clear hw4
  cases r with
  | none =>
    have hRn : R = none := HR.out
    have HRn := Lib.hid hRn
    clear hRn HR
    go_wp2_with (first
      | (refine wpList_store_rv rfl _ _ rfl (w.heap.size + 1) _ #[.int .i64 0, .int .u8 0, .slice none 0 0] rfl rfl (RBox.box HT.out H4.out.1) rfl rfl (by simp [Value.oneCell']) ?_; intro w5 hn5 ho5; have H5 := Lib.hid (And.intro hn5 ho5); clear hn5 ho5)
      | fail)
    refine bodyPost_ret (results_got rfl _ _ (w.heap.size + 1) _ rfl H5.out.1 rfl) rfl ?_
    rw [HRn.out]
    exact rgot_none HT.out H4.out.1 H5.out.2

  | some q =>
    obtain ⟨x, b1, s1⟩ := q
    obtain ⟨_, rfl, h3, h4⟩ := H3.out.2 _ _ _ rfl
    obtain rfl := h4.1.1
    obtain ⟨r2, hr2⟩ : ∃ r2, r2 = got c1 (nats t3) s1 := ⟨_, rfl⟩
    have Hc2 := Lib.hid (HI1.out t3 s1 p3 c3 w4 (HbW.out.trans (H4.out.1.mono HbW.out.size)) h3 h4)
    rw [← hr2] at Hc2
    have hR2 : R = twoOf x r2 := by rw [hr2]; exact HR.out
    have HR2 := Lib.hid hR2
    clear hR2 HR hr2 h3 h4
    have p258' : w4.cell? ⟨w.heap.size, 258, none⟩ = _ := (H4.out.1.cell (p := ⟨w.heap.size, 258, none⟩) (show w.heap.size < W.heap.size by have := HT.out.size; omega)).trans p258
    go_wp2_with (first
      | (refine K.wpList_load_refcore rfl _ rfl cb (coff + 259) es1 rfl (HE1.out _ (HbW.out.trans (H4.out.1.mono HbW.out.size))) ?_)
      | fail)
    refine Hc2.out.mono ?_
    clear Hc2
    rintro e w7 ⟨ky, zy, ay, leny, capy, t7, p7, n7, c7, rfl, hb7, hq7⟩
    obtain ⟨w8, hw8⟩ : ∃ w8, w8 = w7.alloc (.cells #[.int .i64 ky, .int .u8 zy, .slice ay leny capy] 47) := ⟨_, rfl⟩
    have hb8 : Below w4.heap.size w4 w8 := by rw [hw8]; exact hb7.alloc hb7.size _
    have hx8 : RBox w8 w7.heap.size #[.int .i64 ky, .int .u8 zy, .slice ay leny capy] := by rw [hw8]; exact rbox_start w7 _
    have hs8 : w8.heap.size = w7.heap.size + 1 := by rw [hw8]; simp
    have hq8 := fun v b2 s2 e => refIn_from (refIn_below (hq7 v b2 s2 e).1 (by rw [hw8]; exact K.alloc_below w7 _ : Below w7.heap.size w7 w8)) H4.out.1.size
    have H7 := Lib.hid (And.intro hb7 hq7)
    have H8 := Lib.hid (And.intro hb8 (And.intro hq8 (And.intro hs8 (H4.out.1.trans (hb8.mono H4.out.1.size)))))
    have Hx8 := Lib.hid (rval3_in (cs := [.int .i64 ky, .int .u8 zy, .slice ay leny capy]) hx8 rfl)
    have Hv4 := Lib.hid (Hx4.out.below (by have := H4.out.2.2; omega) hb8)
    clear hb7 hq7 hb8 hx8 hs8 hq8
    go_upto_region 13 with fail
    rw [← hw8]
    clear hw8
    go_wp2_with (first
      | (refine wpList_load_refval rfl _ rfl w3.heap.size 0 _ rfl Hv4.out ?_)
      | (refine wpList_load_refval rfl _ rfl w7.heap.size 0 _ rfl Hx8.out ?_)
      | (refine wpList_build_rv2 rfl _ _ rfl [.int .i64 kx, .int .u8 zx, .slice ax lenx capx] [.int .i64 ky, .int .u8 zy, .slice ay leny capy] rfl rfl rfl rfl ?_; intro w10 hn10 hb10 hs10; have H10 := Lib.hid (And.intro hn10 (And.intro hb10 (And.intro hs10 (H8.out.2.2.2.trans (hb10.mono H8.out.2.2.2.size))))); clear hn10 hb10 hs10)
      | (refine wpList_store_rv rfl _ _ rfl (w.heap.size + 1) _ #[.int .i64 3, .int .u8 0, .slice (some ⟨w8.heap.size, 0, none⟩) 2 2] rfl rfl (RBox.box HT.out H10.out.2.2.2) rfl rfl (by simp [Value.oneCell']) ?_; intro w5 hn5 ho5; have H5 := Lib.hid (And.intro hn5 ho5); clear hn5 ho5)
      | fail)
    refine bodyPost_ret (results_got rfl _ _ (w.heap.size + 1) _ rfl H5.out.1 rfl) rfl ?_
    rw [HR2.out]
    cases r2 with
    | none => exact rgot_none HT.out H10.out.2.2.2 H5.out.2
    | some q =>
      obtain ⟨y, b2, s2⟩ := q
      obtain ⟨_, rfl, h3, h4⟩ := H7.out.2 _ _ _ rfl
      exact rgot_some HT.out H10.out.2.2.2 H5.out.2 (refIn_row2 rfl (refIn_below (refIn_below (H4.out.2.1 _ _ _ rfl) H8.out.1) H10.out.2.1) (refIn_below (H8.out.2.1 _ _ _ rfl) H10.out.2.1) H10.out.1 H8.out.2.2.2.size) h3 h4


set_option maxHeartbeats 16000000 in
theorem rg_4 {Wc : World} (st : BitVec 256) (n : Int) (c0 : K.Cr) (c1 : K.Cr) (cs : List Value) (hat : K.Cr.ref Wc (.mk 4 st n [c0, c1]) cs) (ih0 : ∀ cs, K.Cr.ref Wc c0 cs → RGotOk Wc (got c0) cs) (ih1 : ∀ cs, K.Cr.ref Wc c1 cs → RGotOk Wc (got c1) cs) : RGotOk Wc (gotT 4 st ([c0, c1].map got)) cs := by
  intro t s p cap w hb ht hs
  rw [K.refc_mk] at hat
  obtain ⟨_, _, a, cap0, rfl, hmax, hl⟩ := hat
  replace hl := (show 2 = 0 ∨ _ from hl)
  replace hmax : 2 ≤ maxLen := hmax
  obtain ⟨cb, coff, rfl, hcap, hcb, hcr⟩ := hl.resolve_left (by decide)
  obtain ⟨es0, hes0, hcell0, hch0⟩ := K.coresRef_get Wc cb [c0, c1] coff hcr 0 (by simp)
  have HE0 := Lib.hid (fun (w' : World) (h : Below Wc.heap.size Wc w') => (⟨hes0, fun q hq => by rw [h.cell (p := ⟨cb, coff + 0 + q, none⟩) hcb]; exact hcell0 q hq⟩ : K.RefC w' cb (coff + 0) es0))
  have HI0 := Lib.hid (ih0 es0 hch0)
  clear hcell0 hch0 hes0 ih0
  obtain ⟨es1, hes1, hcell1, hch1⟩ := K.coresRef_get Wc cb [c0, c1] coff hcr 1 (by simp)
  have HE1 := Lib.hid (fun (w' : World) (h : Below Wc.heap.size Wc w') => (⟨hes1, fun q hq => by rw [h.cell (p := ⟨cb, coff + 259 + q, none⟩) hcb]; exact hcell1 q hq⟩ : K.RefC w' cb (coff + 259) es1))
  have HI1 := Lib.hid (ih1 es1 hch1)
  clear hcell1 hch1 hes1 ih1
  have hcapI : (2 : Int) ≤ (cap0 : Int) := by have h2 : 2 ≤ cap0 := hcap; omega
  clear hcr hl hcb hcap hmax
  obtain ⟨W, hW⟩ : ∃ W, W = (w.alloc (.cells (K.rcCells 4 st n (.slice (some ⟨cb, coff, none⟩) 2 cap0)).toArray 54)).alloc (.cells #[.int .i64 0, .int .u8 0, .slice none 0 0] 47) := ⟨_, rfl⟩
  have hT : Twain w W (K.rcCells 4 st n (.slice (some ⟨cb, coff, none⟩) 2 cap0)) := by rw [hW]; exact twain _ _
  have hcc := K.ccells_box hT.core
  have p0 : W.cell? ⟨w.heap.size, 0, none⟩ = some (.int .i64 4) := hcc.c0
  have p258 : W.cell? ⟨w.heap.size, 258, none⟩ = some (.slice (some ⟨cb, coff, none⟩) 2 cap0) := hcc.c258
  have hbW : Below Wc.heap.size Wc W := hb.trans (hT.bel.mono hb.size)
  have HC := Lib.hid hcc
  have hmx : (s.length : Int) ≤ 9223372036854775807 := by have := hs.2; omega
  obtain ⟨R, hR⟩ : ∃ R, R = altT (got c0) (got c1) (nats t) s := ⟨_, rfl⟩
  show Calls _ _ _ _ (RGot Wc w (altT (got c0) (got c1) (nats t) s))
  rw [← hR]
  cases hbs : nats t with
  | nil =>
    rw [hbs] at hR
    have HR : Hid (R = none) := Lib.hid hR
    obtain rfl : t = ⟨#[]⟩ := bytes_empty hbs
    clear hR hbs
    generalize K.rcCells 4 st n (.slice (some ⟨cb, coff, none⟩) 2 cap0) = C at hW hT ⊢
    have HT := Lib.hid hT
    have HbW := Lib.hid hbW
    have Ht := Lib.hid ht
    have Hs := Lib.hid hs
    clear hT hcc hb hbW ht hs
    go_enter Try.func50, Try.ntmps50
    go_upto_region 1 with (first
      | (refine Go.Great.wpList_boxTo rfl _ _ rfl _ rfl w.heap.size rfl C.toArray rfl ?_)
      | fail)
    rw [← hW]
    clear hW
    have hRn : R = none := HR.out
    have HRn := Lib.hid hRn
    clear hRn
    go_wp2_with (first
      | (refine wpList_store_rv rfl _ _ rfl (w.heap.size + 1) _ #[.int .i64 0, .int .u8 0, .slice none 0 0] rfl rfl (RBox.box HT.out (Below.refl _ _)) rfl rfl (by simp [Value.oneCell']) ?_; intro w5 hn5 ho5; have H5 := Lib.hid (And.intro hn5 ho5); clear hn5 ho5)
      | fail)
    refine bodyPost_ret (results_got rfl _ _ (w.heap.size + 1) _ rfl H5.out.1 rfl) rfl ?_
    rw [HRn.out]
    exact rgot_none HT.out (Below.refl _ _) H5.out.2

  | cons c bs =>
    rw [hbs] at hR
    have ts0 : 0 < t.size := by rw [← nats_length, hbs]; simp
    have tsI : (0 : Int) < t.size := by omega
    have tsI1 : (1 : Int) ≤ t.size := by omega
    have te : decide ((t.size : Int) = 0) = false := decide_eq_false (by omega)
    have te2 : ((t.size : Int) == 0) = false := by simpa using (show ¬ (t.size : Int) = 0 by omega)
    have tf : ((t[0]'ts0).toNat : Int) = (c : Nat) := by rw [nats_first ts0, hbs]; rfl
    by_cases h48 : c = 48
    · obtain rfl := h48
      replace tf : ((t[0]'ts0).toNat : Int) = 48 := tf
      obtain ⟨r, hr⟩ : ∃ r, r = got c0 bs s := ⟨_, rfl⟩
      have hR2 : R = oneOf 4 r := by rw [hr]; exact hR
      have HR := Lib.hid hR2
      have hcl := fun (w' : World) (h : Below W.heap.size W w') => HI0.out (t.extract 1 t.size) s p cap w' (hbW.trans (h.mono hbW.size)) (by rw [ByteArray.size_extract]; omega) hs
      rw [nats_tail, hbs, List.tail_cons, ← hr] at hcl
      have Hcl := Lib.hid hcl
      have Hts := Lib.hid ts0
      clear hr hR hR2 hbs hcl
      generalize K.rcCells 4 st n (.slice (some ⟨cb, coff, none⟩) 2 cap0) = C at hW hT ⊢
      have HT := Lib.hid hT
      have HbW := Lib.hid hbW
      have Ht := Lib.hid ht
      have Hs := Lib.hid hs
      clear hT hcc hb hbW ht hs
      go_enter Try.func50, Try.ntmps50
      go_upto_region 1 with (first
        | (refine Go.Great.wpList_boxTo rfl _ _ rfl _ rfl w.heap.size rfl C.toArray rfl ?_)
        | fail)
      rw [← hW]
      clear hW
      go_wp2_with fail
      obtain ⟨wd, hwd⟩ : ∃ wd, wd = W.drew := ⟨_, rfl⟩
      have hBd : Below W.heap.size W wd := by rw [hwd]; exact (Below.refl _ _).drew
      refine wp_region_hold (fun w' => Below W.heap.size W w') (.plain 0 (.plain 1 (.plain 2 (.plain 3 (.plain 4 (.plain 5 (.plain 6 (.plain 7 (.fork 8 (.plain 9 (.plain 10 (.plain 11 (.plain 12 (.plain 13 (.sole 14 (.sole 15 (.plain 16 (.plain 17 (.plain 18 .done)))))))))) 14 (.sole 8 (.plain 9 (.plain 10 (.plain 11 (.plain 12 (.plain 13 (.sole 15 (.plain 16 (.plain 17 (.plain 18 .done))))))))))))))))))) (by rw [← hwd]; exact hBd) (by kernel_rfl) (by kernel_rfl) (fun c a d v w h => by cases d <;> exact h) ?_
      rw [← hwd]
      clear hwd
      have hne : Nonempty (HeldW (fun w' => Below W.heap.size W w')) := HeldW.nonempty hBd
      repeat (first
          | (refine' hold_skip ?_ ?_ ?_
             rotate_left 1
             · simp only [List.getElem?_toArray, List.getElem?_cons_zero, List.getElem?_cons_succ]; exact rfl
             · exact rfl
             simp only [Act.put, List.setIfInBounds_toArray, List.set_cons_zero, List.set_cons_succ])
          | (refine' hold_want ?_ ?_ (fun J hJ => ?_)
             rotate_left 1
             · simp only [List.getElem?_toArray, List.getElem?_cons_zero, List.getElem?_cons_succ]; exact rfl
             · exact rfl
             first
             | (refine quiet_load_cores _ rfl ⟨w.heap.size, 258, none⟩ _ rfl (fun w' ⟨L, hL⟩ => ((hL ▸ L.ok : Below W.heap.size W w').cell (p := ⟨w.heap.size, 258, none⟩) (show w.heap.size < W.heap.size by have := HT.out.size; omega)).trans p258) ?_; refine hJ _ ?_; clear hJ J; try simp only [Act.put, List.setIfInBounds_toArray, List.set_cons_zero, List.set_cons_succ])
             | (refine quiet_load_rcore _ rfl cb (coff + 0) es0 rfl (fun w' ⟨L, hL⟩ => HE0.out _ (HbW.out.trans ((hL ▸ L.ok : Below W.heap.size W w').mono HbW.out.size))) ?_; refine hJ _ ?_; clear hJ J; try simp only [Act.put, List.setIfInBounds_toArray, List.set_cons_zero, List.set_cons_succ])
             | (refine quiet_tail_str _ _ rfl t rfl rfl Hts.out ?_; refine hJ _ ?_; clear hJ J; try simp only [Act.put, List.setIfInBounds_toArray, List.set_cons_zero, List.set_cons_succ])
             | (refine quiet_extract _ 0 rfl #[.agg #[.int .i64 kx, .int .u8 zx, .slice ax lenx capx], .string t3, .slice p3 n3 c3, .bool r.isSome] _ rfl rfl ?_; refine hJ _ ?_; clear hJ J; try simp only [Act.put, List.setIfInBounds_toArray, List.set_cons_zero, List.set_cons_succ])
             | (refine quiet_extract _ 1 rfl #[.agg #[.int .i64 kx, .int .u8 zx, .slice ax lenx capx], .string t3, .slice p3 n3 c3, .bool r.isSome] _ rfl rfl ?_; refine hJ _ ?_; clear hJ J; try simp only [Act.put, List.setIfInBounds_toArray, List.set_cons_zero, List.set_cons_succ])
             | (refine quiet_extract _ 2 rfl #[.agg #[.int .i64 kx, .int .u8 zx, .slice ax lenx capx], .string t3, .slice p3 n3 c3, .bool r.isSome] _ rfl rfl ?_; refine hJ _ ?_; clear hJ J; try simp only [Act.put, List.setIfInBounds_toArray, List.set_cons_zero, List.set_cons_succ])
             | (refine quiet_extract _ 3 rfl #[.agg #[.int .i64 kx, .int .u8 zx, .slice ax lenx capx], .string t3, .slice p3 n3 c3, .bool r.isSome] _ rfl rfl ?_; refine hJ _ ?_; clear hJ J; try simp only [Act.put, List.setIfInBounds_toArray, List.set_cons_zero, List.set_cons_succ])
             | (refine quiet_extract _ _ rfl _ _ rfl rfl ?_; refine hJ _ ?_; clear hJ J; try simp only [Act.put, List.setIfInBounds_toArray, List.set_cons_zero, List.set_cons_succ])
             | (go_big_quiet_op; refine hJ _ ?_; clear hJ J; try simp only [Act.put, List.setIfInBounds_toArray, List.set_cons_zero, List.set_cons_succ])))
      refine hold_fork ?_ ?_
      · refine' hold_step ?_ ?_ (fun J hJ => ?_)
        rotate_left 1
        · simp only [List.getElem?_toArray, List.getElem?_cons_zero, List.getElem?_cons_succ]; exact rfl
        · exact rfl
        go_simp
        refine (Hcl.out _ hBd).mono ?_
        rintro e w3 ⟨kx, zx, ax, lenx, capx, t3, p3, n3, c3, rfl, hb3, hq⟩
        have hB3 : Below W.heap.size W w3 := hBd.trans (hb3.mono hBd.size)
        have hr3 := fun v b2 s2 e => refIn_from (hq v b2 s2 e).1 hBd.size
        refine hJ _ _ hB3 ?_
        clear hJ J hb3
        try simp only [Act.put, List.setIfInBounds_toArray, List.set_cons_zero, List.set_cons_succ]
        repeat (first
            | (refine' hold_skip ?_ ?_ ?_
               rotate_left 1
               · simp only [List.getElem?_toArray, List.getElem?_cons_zero, List.getElem?_cons_succ]; exact rfl
               · exact rfl
               simp only [Act.put, List.setIfInBounds_toArray, List.set_cons_zero, List.set_cons_succ])
            | (refine' hold_want ?_ ?_ (fun J hJ => ?_)
               rotate_left 1
               · simp only [List.getElem?_toArray, List.getElem?_cons_zero, List.getElem?_cons_succ]; exact rfl
               · exact rfl
               first
               | (refine quiet_load_cores _ rfl ⟨w.heap.size, 258, none⟩ _ rfl (fun w' ⟨L, hL⟩ => ((hL ▸ L.ok : Below W.heap.size W w').cell (p := ⟨w.heap.size, 258, none⟩) (show w.heap.size < W.heap.size by have := HT.out.size; omega)).trans p258) ?_; refine hJ _ ?_; clear hJ J; try simp only [Act.put, List.setIfInBounds_toArray, List.set_cons_zero, List.set_cons_succ])
               | (refine quiet_load_rcore _ rfl cb (coff + 0) es0 rfl (fun w' ⟨L, hL⟩ => HE0.out _ (HbW.out.trans ((hL ▸ L.ok : Below W.heap.size W w').mono HbW.out.size))) ?_; refine hJ _ ?_; clear hJ J; try simp only [Act.put, List.setIfInBounds_toArray, List.set_cons_zero, List.set_cons_succ])
               | (refine quiet_tail_str _ _ rfl t rfl rfl Hts.out ?_; refine hJ _ ?_; clear hJ J; try simp only [Act.put, List.setIfInBounds_toArray, List.set_cons_zero, List.set_cons_succ])
               | (refine quiet_extract _ 0 rfl #[.agg #[.int .i64 kx, .int .u8 zx, .slice ax lenx capx], .string t3, .slice p3 n3 c3, .bool r.isSome] _ rfl rfl ?_; refine hJ _ ?_; clear hJ J; try simp only [Act.put, List.setIfInBounds_toArray, List.set_cons_zero, List.set_cons_succ])
               | (refine quiet_extract _ 1 rfl #[.agg #[.int .i64 kx, .int .u8 zx, .slice ax lenx capx], .string t3, .slice p3 n3 c3, .bool r.isSome] _ rfl rfl ?_; refine hJ _ ?_; clear hJ J; try simp only [Act.put, List.setIfInBounds_toArray, List.set_cons_zero, List.set_cons_succ])
               | (refine quiet_extract _ 2 rfl #[.agg #[.int .i64 kx, .int .u8 zx, .slice ax lenx capx], .string t3, .slice p3 n3 c3, .bool r.isSome] _ rfl rfl ?_; refine hJ _ ?_; clear hJ J; try simp only [Act.put, List.setIfInBounds_toArray, List.set_cons_zero, List.set_cons_succ])
               | (refine quiet_extract _ 3 rfl #[.agg #[.int .i64 kx, .int .u8 zx, .slice ax lenx capx], .string t3, .slice p3 n3 c3, .bool r.isSome] _ rfl rfl ?_; refine hJ _ ?_; clear hJ J; try simp only [Act.put, List.setIfInBounds_toArray, List.set_cons_zero, List.set_cons_succ])
               | (refine quiet_extract _ _ rfl _ _ rfl rfl ?_; refine hJ _ ?_; clear hJ J; try simp only [Act.put, List.setIfInBounds_toArray, List.set_cons_zero, List.set_cons_succ])
               | (go_big_quiet_op; refine hJ _ ?_; clear hJ J; try simp only [Act.put, List.setIfInBounds_toArray, List.set_cons_zero, List.set_cons_succ])))
        refine' hold_sole ?_ ?_ (fun J hJ => ?_)
        rotate_left 1
        · simp only [List.getElem?_toArray, List.getElem?_cons_zero, List.getElem?_cons_succ]; exact rfl
        · exact rfl
        refine wp_alloc_rvk rfl ?_
        intro wa hza hba hsa
        have hBa : Below W.heap.size W wa := hB3.trans (hba.mono hB3.size)
        have hle : W.heap.size ≤ w3.heap.size := hB3.size
        have hq3 := fun v b2 s2 e => off_alloc (hr3 v b2 s2 e) hba
        refine hJ _ _ hBa ?_
        clear hJ J hba hsa
        try simp only [Act.put, List.setIfInBounds_toArray, List.set_cons_zero, List.set_cons_succ]
        refine' hold_sole ?_ ?_ (fun J hJ => ?_)
        rotate_left 1
        · simp only [List.getElem?_toArray, List.getElem?_cons_zero, List.getElem?_cons_succ]; exact rfl
        · exact rfl
        refine wp_store_rvk _ _ rfl w3.heap.size _ #[.int .i64 kx, .int .u8 zx, .slice ax lenx capx] rfl rfl hza rfl rfl (by simp [Value.oneCell']) ?_
        intro w4 hn4 ho4
        have hB4 : Below W.heap.size W w4 := ho4.below hBa hle
        have hr4 := fun v b2 s2 e => off_store (hq3 v b2 s2 e) ho4
        refine hJ _ _ hB4 ?_
        clear hJ J
        have H3 := Lib.hid (fun v b2 s2 e => (hq v b2 s2 e).2)
        have H4 := Lib.hid (And.intro hB4 hr4)
        have Hx4 := Lib.hid (rval3_in (cs := [.int .i64 kx, .int .u8 zx, .slice ax lenx capx]) hn4 rfl)
        clear hq hn4 ho4 hB4 hr4 hq3 
        try simp only [Act.put]
        repeat (first
            | (refine' hold_skip ?_ ?_ ?_
               rotate_left 1
               · simp only [List.getElem?_toArray, List.getElem?_cons_zero, List.getElem?_cons_succ]; exact rfl
               · exact rfl
               simp only [Act.put, List.setIfInBounds_toArray, List.set_cons_zero, List.set_cons_succ])
            | (refine' hold_want ?_ ?_ (fun J hJ => ?_)
               rotate_left 1
               · simp only [List.getElem?_toArray, List.getElem?_cons_zero, List.getElem?_cons_succ]; exact rfl
               · exact rfl
               first
               | (refine quiet_load_cores _ rfl ⟨w.heap.size, 258, none⟩ _ rfl (fun w' ⟨L, hL⟩ => ((hL ▸ L.ok : Below W.heap.size W w').cell (p := ⟨w.heap.size, 258, none⟩) (show w.heap.size < W.heap.size by have := HT.out.size; omega)).trans p258) ?_; refine hJ _ ?_; clear hJ J; try simp only [Act.put, List.setIfInBounds_toArray, List.set_cons_zero, List.set_cons_succ])
               | (refine quiet_load_rcore _ rfl cb (coff + 0) es0 rfl (fun w' ⟨L, hL⟩ => HE0.out _ (HbW.out.trans ((hL ▸ L.ok : Below W.heap.size W w').mono HbW.out.size))) ?_; refine hJ _ ?_; clear hJ J; try simp only [Act.put, List.setIfInBounds_toArray, List.set_cons_zero, List.set_cons_succ])
               | (refine quiet_tail_str _ _ rfl t rfl rfl Hts.out ?_; refine hJ _ ?_; clear hJ J; try simp only [Act.put, List.setIfInBounds_toArray, List.set_cons_zero, List.set_cons_succ])
               | (refine quiet_extract _ 0 rfl #[.agg #[.int .i64 kx, .int .u8 zx, .slice ax lenx capx], .string t3, .slice p3 n3 c3, .bool r.isSome] _ rfl rfl ?_; refine hJ _ ?_; clear hJ J; try simp only [Act.put, List.setIfInBounds_toArray, List.set_cons_zero, List.set_cons_succ])
               | (refine quiet_extract _ 1 rfl #[.agg #[.int .i64 kx, .int .u8 zx, .slice ax lenx capx], .string t3, .slice p3 n3 c3, .bool r.isSome] _ rfl rfl ?_; refine hJ _ ?_; clear hJ J; try simp only [Act.put, List.setIfInBounds_toArray, List.set_cons_zero, List.set_cons_succ])
               | (refine quiet_extract _ 2 rfl #[.agg #[.int .i64 kx, .int .u8 zx, .slice ax lenx capx], .string t3, .slice p3 n3 c3, .bool r.isSome] _ rfl rfl ?_; refine hJ _ ?_; clear hJ J; try simp only [Act.put, List.setIfInBounds_toArray, List.set_cons_zero, List.set_cons_succ])
               | (refine quiet_extract _ 3 rfl #[.agg #[.int .i64 kx, .int .u8 zx, .slice ax lenx capx], .string t3, .slice p3 n3 c3, .bool r.isSome] _ rfl rfl ?_; refine hJ _ ?_; clear hJ J; try simp only [Act.put, List.setIfInBounds_toArray, List.set_cons_zero, List.set_cons_succ])
               | (refine quiet_extract _ _ rfl _ _ rfl rfl ?_; refine hJ _ ?_; clear hJ J; try simp only [Act.put, List.setIfInBounds_toArray, List.set_cons_zero, List.set_cons_succ])
               | (go_big_quiet_op; refine hJ _ ?_; clear hJ J; try simp only [Act.put, List.setIfInBounds_toArray, List.set_cons_zero, List.set_cons_succ])))
        refine hold_done ?_
        have Hle := Lib.hid hle
        go_wp2_with (first
          | (refine wpList_load_refval rfl _ rfl w3.heap.size 0 _ rfl Hx4.out ?_)
          | (refine wpList_build_rv1 rfl _ rfl [.int .i64 kx, .int .u8 zx, .slice ax lenx capx] rfl rfl ?_; intro w6 hn6 hb6 hs6; have H6 := Lib.hid (And.intro hn6 (And.intro hb6 (And.intro hs6 (H4.out.1.trans (hb6.mono H4.out.1.size))))); clear hn6 hb6 hs6)
          | (refine wpList_store_rv rfl _ _ rfl (w.heap.size + 1) _ #[.int .i64 4, .int .u8 0, .slice (some ⟨w4.heap.size, 0, none⟩) 1 1] rfl rfl (RBox.box HT.out H6.out.2.2.2) rfl rfl (by simp [Value.oneCell']) ?_; intro w5 hn5 ho5; have H5 := Lib.hid (And.intro hn5 ho5); clear hn5 ho5)
          | fail)
        refine bodyPost_ret (results_got rfl _ _ (w.heap.size + 1) _ rfl H5.out.1 rfl) rfl ?_
        rw [HR.out]
        cases r with
        | none => exact rgot_none HT.out H6.out.2.2.2 H5.out.2
        | some q =>
          obtain ⟨v, b2, s2⟩ := q
          obtain ⟨rfl, h3, h4⟩ := H3.out _ _ _ rfl
          exact rgot_some HT.out H6.out.2.2.2 H5.out.2 (refIn_row1 rfl (refIn_below (H4.out.2 _ _ _ rfl) H6.out.2.1) H6.out.1 H4.out.1.size) h3 h4

      · refine' hold_step ?_ ?_ (fun J hJ => ?_)
        rotate_left 1
        · simp only [List.getElem?_toArray, List.getElem?_cons_zero, List.getElem?_cons_succ]; exact rfl
        · exact rfl
        refine wp_alloc_rvk rfl ?_
        intro wa hza hba hsa
        have hBa : Below W.heap.size W wa := hBd.trans (hba.mono hBd.size)
        have hle : W.heap.size ≤ wd.heap.size := hBd.size
        refine hJ _ _ hBa ?_
        clear hJ J hba hsa
        try simp only [Act.put, List.setIfInBounds_toArray, List.set_cons_zero, List.set_cons_succ]
        refine' hold_sole ?_ ?_ (fun J hJ => ?_)
        rotate_left 1
        · simp only [List.getElem?_toArray, List.getElem?_cons_zero, List.getElem?_cons_succ]; exact rfl
        · exact rfl
        go_simp
        refine (Hcl.out _ hBa).mono ?_
        rintro e w3 ⟨kx, zx, ax, lenx, capx, t3, p3, n3, c3, rfl, hb3, hq⟩
        have hB3 : Below W.heap.size W w3 := hBa.trans (hb3.mono hBa.size)
        have hz3 := hza.below hb3 hza.lt
        have hq3 := fun v b2 s2 e => off_call (B := W.heap.size) (b := wd.heap.size) (hq v b2 s2 e).1 hBa.size hza.lt
        refine hJ _ _ hB3 ?_
        clear hJ J hb3
        try simp only [Act.put, List.setIfInBounds_toArray, List.set_cons_zero, List.set_cons_succ]
        repeat (first
            | (refine' hold_skip ?_ ?_ ?_
               rotate_left 1
               · simp only [List.getElem?_toArray, List.getElem?_cons_zero, List.getElem?_cons_succ]; exact rfl
               · exact rfl
               simp only [Act.put, List.setIfInBounds_toArray, List.set_cons_zero, List.set_cons_succ])
            | (refine' hold_want ?_ ?_ (fun J hJ => ?_)
               rotate_left 1
               · simp only [List.getElem?_toArray, List.getElem?_cons_zero, List.getElem?_cons_succ]; exact rfl
               · exact rfl
               first
               | (refine quiet_load_cores _ rfl ⟨w.heap.size, 258, none⟩ _ rfl (fun w' ⟨L, hL⟩ => ((hL ▸ L.ok : Below W.heap.size W w').cell (p := ⟨w.heap.size, 258, none⟩) (show w.heap.size < W.heap.size by have := HT.out.size; omega)).trans p258) ?_; refine hJ _ ?_; clear hJ J; try simp only [Act.put, List.setIfInBounds_toArray, List.set_cons_zero, List.set_cons_succ])
               | (refine quiet_load_rcore _ rfl cb (coff + 0) es0 rfl (fun w' ⟨L, hL⟩ => HE0.out _ (HbW.out.trans ((hL ▸ L.ok : Below W.heap.size W w').mono HbW.out.size))) ?_; refine hJ _ ?_; clear hJ J; try simp only [Act.put, List.setIfInBounds_toArray, List.set_cons_zero, List.set_cons_succ])
               | (refine quiet_tail_str _ _ rfl t rfl rfl Hts.out ?_; refine hJ _ ?_; clear hJ J; try simp only [Act.put, List.setIfInBounds_toArray, List.set_cons_zero, List.set_cons_succ])
               | (refine quiet_extract _ 0 rfl #[.agg #[.int .i64 kx, .int .u8 zx, .slice ax lenx capx], .string t3, .slice p3 n3 c3, .bool r.isSome] _ rfl rfl ?_; refine hJ _ ?_; clear hJ J; try simp only [Act.put, List.setIfInBounds_toArray, List.set_cons_zero, List.set_cons_succ])
               | (refine quiet_extract _ 1 rfl #[.agg #[.int .i64 kx, .int .u8 zx, .slice ax lenx capx], .string t3, .slice p3 n3 c3, .bool r.isSome] _ rfl rfl ?_; refine hJ _ ?_; clear hJ J; try simp only [Act.put, List.setIfInBounds_toArray, List.set_cons_zero, List.set_cons_succ])
               | (refine quiet_extract _ 2 rfl #[.agg #[.int .i64 kx, .int .u8 zx, .slice ax lenx capx], .string t3, .slice p3 n3 c3, .bool r.isSome] _ rfl rfl ?_; refine hJ _ ?_; clear hJ J; try simp only [Act.put, List.setIfInBounds_toArray, List.set_cons_zero, List.set_cons_succ])
               | (refine quiet_extract _ 3 rfl #[.agg #[.int .i64 kx, .int .u8 zx, .slice ax lenx capx], .string t3, .slice p3 n3 c3, .bool r.isSome] _ rfl rfl ?_; refine hJ _ ?_; clear hJ J; try simp only [Act.put, List.setIfInBounds_toArray, List.set_cons_zero, List.set_cons_succ])
               | (refine quiet_extract _ _ rfl _ _ rfl rfl ?_; refine hJ _ ?_; clear hJ J; try simp only [Act.put, List.setIfInBounds_toArray, List.set_cons_zero, List.set_cons_succ])
               | (go_big_quiet_op; refine hJ _ ?_; clear hJ J; try simp only [Act.put, List.setIfInBounds_toArray, List.set_cons_zero, List.set_cons_succ])))
        refine' hold_sole ?_ ?_ (fun J hJ => ?_)
        rotate_left 1
        · simp only [List.getElem?_toArray, List.getElem?_cons_zero, List.getElem?_cons_succ]; exact rfl
        · exact rfl
        refine wp_store_rvk _ _ rfl wd.heap.size _ #[.int .i64 kx, .int .u8 zx, .slice ax lenx capx] rfl rfl hz3 rfl rfl (by simp [Value.oneCell']) ?_
        intro w4 hn4 ho4
        have hB4 : Below W.heap.size W w4 := ho4.below hB3 hle
        have hr4 := fun v b2 s2 e => off_store (hq3 v b2 s2 e) ho4
        refine hJ _ _ hB4 ?_
        clear hJ J
        have H3 := Lib.hid (fun v b2 s2 e => (hq v b2 s2 e).2)
        have H4 := Lib.hid (And.intro hB4 hr4)
        have Hx4 := Lib.hid (rval3_in (cs := [.int .i64 kx, .int .u8 zx, .slice ax lenx capx]) hn4 rfl)
        clear hq hn4 ho4 hB4 hr4 hq3 
        try simp only [Act.put]
        repeat (first
            | (refine' hold_skip ?_ ?_ ?_
               rotate_left 1
               · simp only [List.getElem?_toArray, List.getElem?_cons_zero, List.getElem?_cons_succ]; exact rfl
               · exact rfl
               simp only [Act.put, List.setIfInBounds_toArray, List.set_cons_zero, List.set_cons_succ])
            | (refine' hold_want ?_ ?_ (fun J hJ => ?_)
               rotate_left 1
               · simp only [List.getElem?_toArray, List.getElem?_cons_zero, List.getElem?_cons_succ]; exact rfl
               · exact rfl
               first
               | (refine quiet_load_cores _ rfl ⟨w.heap.size, 258, none⟩ _ rfl (fun w' ⟨L, hL⟩ => ((hL ▸ L.ok : Below W.heap.size W w').cell (p := ⟨w.heap.size, 258, none⟩) (show w.heap.size < W.heap.size by have := HT.out.size; omega)).trans p258) ?_; refine hJ _ ?_; clear hJ J; try simp only [Act.put, List.setIfInBounds_toArray, List.set_cons_zero, List.set_cons_succ])
               | (refine quiet_load_rcore _ rfl cb (coff + 0) es0 rfl (fun w' ⟨L, hL⟩ => HE0.out _ (HbW.out.trans ((hL ▸ L.ok : Below W.heap.size W w').mono HbW.out.size))) ?_; refine hJ _ ?_; clear hJ J; try simp only [Act.put, List.setIfInBounds_toArray, List.set_cons_zero, List.set_cons_succ])
               | (refine quiet_tail_str _ _ rfl t rfl rfl Hts.out ?_; refine hJ _ ?_; clear hJ J; try simp only [Act.put, List.setIfInBounds_toArray, List.set_cons_zero, List.set_cons_succ])
               | (refine quiet_extract _ 0 rfl #[.agg #[.int .i64 kx, .int .u8 zx, .slice ax lenx capx], .string t3, .slice p3 n3 c3, .bool r.isSome] _ rfl rfl ?_; refine hJ _ ?_; clear hJ J; try simp only [Act.put, List.setIfInBounds_toArray, List.set_cons_zero, List.set_cons_succ])
               | (refine quiet_extract _ 1 rfl #[.agg #[.int .i64 kx, .int .u8 zx, .slice ax lenx capx], .string t3, .slice p3 n3 c3, .bool r.isSome] _ rfl rfl ?_; refine hJ _ ?_; clear hJ J; try simp only [Act.put, List.setIfInBounds_toArray, List.set_cons_zero, List.set_cons_succ])
               | (refine quiet_extract _ 2 rfl #[.agg #[.int .i64 kx, .int .u8 zx, .slice ax lenx capx], .string t3, .slice p3 n3 c3, .bool r.isSome] _ rfl rfl ?_; refine hJ _ ?_; clear hJ J; try simp only [Act.put, List.setIfInBounds_toArray, List.set_cons_zero, List.set_cons_succ])
               | (refine quiet_extract _ 3 rfl #[.agg #[.int .i64 kx, .int .u8 zx, .slice ax lenx capx], .string t3, .slice p3 n3 c3, .bool r.isSome] _ rfl rfl ?_; refine hJ _ ?_; clear hJ J; try simp only [Act.put, List.setIfInBounds_toArray, List.set_cons_zero, List.set_cons_succ])
               | (refine quiet_extract _ _ rfl _ _ rfl rfl ?_; refine hJ _ ?_; clear hJ J; try simp only [Act.put, List.setIfInBounds_toArray, List.set_cons_zero, List.set_cons_succ])
               | (go_big_quiet_op; refine hJ _ ?_; clear hJ J; try simp only [Act.put, List.setIfInBounds_toArray, List.set_cons_zero, List.set_cons_succ])))
        refine hold_done ?_
        have Hle := Lib.hid hle
        go_wp2_with (first
          | (refine wpList_load_refval rfl _ rfl wd.heap.size 0 _ rfl Hx4.out ?_)
          | (refine wpList_build_rv1 rfl _ rfl [.int .i64 kx, .int .u8 zx, .slice ax lenx capx] rfl rfl ?_; intro w6 hn6 hb6 hs6; have H6 := Lib.hid (And.intro hn6 (And.intro hb6 (And.intro hs6 (H4.out.1.trans (hb6.mono H4.out.1.size))))); clear hn6 hb6 hs6)
          | (refine wpList_store_rv rfl _ _ rfl (w.heap.size + 1) _ #[.int .i64 4, .int .u8 0, .slice (some ⟨w4.heap.size, 0, none⟩) 1 1] rfl rfl (RBox.box HT.out H6.out.2.2.2) rfl rfl (by simp [Value.oneCell']) ?_; intro w5 hn5 ho5; have H5 := Lib.hid (And.intro hn5 ho5); clear hn5 ho5)
          | fail)
        refine bodyPost_ret (results_got rfl _ _ (w.heap.size + 1) _ rfl H5.out.1 rfl) rfl ?_
        rw [HR.out]
        cases r with
        | none => exact rgot_none HT.out H6.out.2.2.2 H5.out.2
        | some q =>
          obtain ⟨v, b2, s2⟩ := q
          obtain ⟨rfl, h3, h4⟩ := H3.out _ _ _ rfl
          exact rgot_some HT.out H6.out.2.2.2 H5.out.2 (refIn_row1 rfl (refIn_below (H4.out.2 _ _ _ rfl) H6.out.2.1) H6.out.1 H4.out.1.size) h3 h4


    by_cases h49 : c = 49
    · clear h48
      obtain rfl := h49
      replace tf : ((t[0]'ts0).toNat : Int) = 49 := tf
      obtain ⟨r, hr⟩ : ∃ r, r = got c1 bs s := ⟨_, rfl⟩
      have hR2 : R = oneOf 5 r := by rw [hr]; exact hR
      have HR := Lib.hid hR2
      have hcl := fun (w' : World) (h : Below W.heap.size W w') => HI1.out (t.extract 1 t.size) s p cap w' (hbW.trans (h.mono hbW.size)) (by rw [ByteArray.size_extract]; omega) hs
      rw [nats_tail, hbs, List.tail_cons, ← hr] at hcl
      have Hcl := Lib.hid hcl
      have Hts := Lib.hid ts0
      clear hr hR hR2 hbs hcl
      generalize K.rcCells 4 st n (.slice (some ⟨cb, coff, none⟩) 2 cap0) = C at hW hT ⊢
      have HT := Lib.hid hT
      have HbW := Lib.hid hbW
      have Ht := Lib.hid ht
      have Hs := Lib.hid hs
      clear hT hcc hb hbW ht hs
      go_enter Try.func50, Try.ntmps50
      go_upto_region 1 with (first
        | (refine Go.Great.wpList_boxTo rfl _ _ rfl _ rfl w.heap.size rfl C.toArray rfl ?_)
        | fail)
      rw [← hW]
      clear hW
      go_wp2_with fail
      obtain ⟨wd, hwd⟩ : ∃ wd, wd = W.drew := ⟨_, rfl⟩
      have hBd : Below W.heap.size W wd := by rw [hwd]; exact (Below.refl _ _).drew
      refine wp_region_hold (fun w' => Below W.heap.size W w') (.plain 0 (.plain 1 (.plain 2 (.plain 3 (.plain 4 (.plain 5 (.plain 6 (.plain 7 (.fork 8 (.plain 9 (.plain 10 (.plain 11 (.plain 12 (.plain 13 (.sole 14 (.sole 15 (.plain 16 (.plain 17 (.plain 18 .done)))))))))) 14 (.sole 8 (.plain 9 (.plain 10 (.plain 11 (.plain 12 (.plain 13 (.sole 15 (.plain 16 (.plain 17 (.plain 18 .done))))))))))))))))))) (by rw [← hwd]; exact hBd) (by kernel_rfl) (by kernel_rfl) (fun c a d v w h => by cases d <;> exact h) ?_
      rw [← hwd]
      clear hwd
      have hne : Nonempty (HeldW (fun w' => Below W.heap.size W w')) := HeldW.nonempty hBd
      repeat (first
          | (refine' hold_skip ?_ ?_ ?_
             rotate_left 1
             · simp only [List.getElem?_toArray, List.getElem?_cons_zero, List.getElem?_cons_succ]; exact rfl
             · exact rfl
             simp only [Act.put, List.setIfInBounds_toArray, List.set_cons_zero, List.set_cons_succ])
          | (refine' hold_want ?_ ?_ (fun J hJ => ?_)
             rotate_left 1
             · simp only [List.getElem?_toArray, List.getElem?_cons_zero, List.getElem?_cons_succ]; exact rfl
             · exact rfl
             first
             | (refine quiet_load_cores _ rfl ⟨w.heap.size, 258, none⟩ _ rfl (fun w' ⟨L, hL⟩ => ((hL ▸ L.ok : Below W.heap.size W w').cell (p := ⟨w.heap.size, 258, none⟩) (show w.heap.size < W.heap.size by have := HT.out.size; omega)).trans p258) ?_; refine hJ _ ?_; clear hJ J; try simp only [Act.put, List.setIfInBounds_toArray, List.set_cons_zero, List.set_cons_succ])
             | (refine quiet_load_rcore _ rfl cb (coff + 259) es1 rfl (fun w' ⟨L, hL⟩ => HE1.out _ (HbW.out.trans ((hL ▸ L.ok : Below W.heap.size W w').mono HbW.out.size))) ?_; refine hJ _ ?_; clear hJ J; try simp only [Act.put, List.setIfInBounds_toArray, List.set_cons_zero, List.set_cons_succ])
             | (refine quiet_tail_str _ _ rfl t rfl rfl Hts.out ?_; refine hJ _ ?_; clear hJ J; try simp only [Act.put, List.setIfInBounds_toArray, List.set_cons_zero, List.set_cons_succ])
             | (refine quiet_extract _ 0 rfl #[.agg #[.int .i64 kx, .int .u8 zx, .slice ax lenx capx], .string t3, .slice p3 n3 c3, .bool r.isSome] _ rfl rfl ?_; refine hJ _ ?_; clear hJ J; try simp only [Act.put, List.setIfInBounds_toArray, List.set_cons_zero, List.set_cons_succ])
             | (refine quiet_extract _ 1 rfl #[.agg #[.int .i64 kx, .int .u8 zx, .slice ax lenx capx], .string t3, .slice p3 n3 c3, .bool r.isSome] _ rfl rfl ?_; refine hJ _ ?_; clear hJ J; try simp only [Act.put, List.setIfInBounds_toArray, List.set_cons_zero, List.set_cons_succ])
             | (refine quiet_extract _ 2 rfl #[.agg #[.int .i64 kx, .int .u8 zx, .slice ax lenx capx], .string t3, .slice p3 n3 c3, .bool r.isSome] _ rfl rfl ?_; refine hJ _ ?_; clear hJ J; try simp only [Act.put, List.setIfInBounds_toArray, List.set_cons_zero, List.set_cons_succ])
             | (refine quiet_extract _ 3 rfl #[.agg #[.int .i64 kx, .int .u8 zx, .slice ax lenx capx], .string t3, .slice p3 n3 c3, .bool r.isSome] _ rfl rfl ?_; refine hJ _ ?_; clear hJ J; try simp only [Act.put, List.setIfInBounds_toArray, List.set_cons_zero, List.set_cons_succ])
             | (refine quiet_extract _ _ rfl _ _ rfl rfl ?_; refine hJ _ ?_; clear hJ J; try simp only [Act.put, List.setIfInBounds_toArray, List.set_cons_zero, List.set_cons_succ])
             | (go_big_quiet_op; refine hJ _ ?_; clear hJ J; try simp only [Act.put, List.setIfInBounds_toArray, List.set_cons_zero, List.set_cons_succ])))
      refine hold_fork ?_ ?_
      · refine' hold_step ?_ ?_ (fun J hJ => ?_)
        rotate_left 1
        · simp only [List.getElem?_toArray, List.getElem?_cons_zero, List.getElem?_cons_succ]; exact rfl
        · exact rfl
        go_simp
        refine (Hcl.out _ hBd).mono ?_
        rintro e w3 ⟨kx, zx, ax, lenx, capx, t3, p3, n3, c3, rfl, hb3, hq⟩
        have hB3 : Below W.heap.size W w3 := hBd.trans (hb3.mono hBd.size)
        have hr3 := fun v b2 s2 e => refIn_from (hq v b2 s2 e).1 hBd.size
        refine hJ _ _ hB3 ?_
        clear hJ J hb3
        try simp only [Act.put, List.setIfInBounds_toArray, List.set_cons_zero, List.set_cons_succ]
        repeat (first
            | (refine' hold_skip ?_ ?_ ?_
               rotate_left 1
               · simp only [List.getElem?_toArray, List.getElem?_cons_zero, List.getElem?_cons_succ]; exact rfl
               · exact rfl
               simp only [Act.put, List.setIfInBounds_toArray, List.set_cons_zero, List.set_cons_succ])
            | (refine' hold_want ?_ ?_ (fun J hJ => ?_)
               rotate_left 1
               · simp only [List.getElem?_toArray, List.getElem?_cons_zero, List.getElem?_cons_succ]; exact rfl
               · exact rfl
               first
               | (refine quiet_load_cores _ rfl ⟨w.heap.size, 258, none⟩ _ rfl (fun w' ⟨L, hL⟩ => ((hL ▸ L.ok : Below W.heap.size W w').cell (p := ⟨w.heap.size, 258, none⟩) (show w.heap.size < W.heap.size by have := HT.out.size; omega)).trans p258) ?_; refine hJ _ ?_; clear hJ J; try simp only [Act.put, List.setIfInBounds_toArray, List.set_cons_zero, List.set_cons_succ])
               | (refine quiet_load_rcore _ rfl cb (coff + 259) es1 rfl (fun w' ⟨L, hL⟩ => HE1.out _ (HbW.out.trans ((hL ▸ L.ok : Below W.heap.size W w').mono HbW.out.size))) ?_; refine hJ _ ?_; clear hJ J; try simp only [Act.put, List.setIfInBounds_toArray, List.set_cons_zero, List.set_cons_succ])
               | (refine quiet_tail_str _ _ rfl t rfl rfl Hts.out ?_; refine hJ _ ?_; clear hJ J; try simp only [Act.put, List.setIfInBounds_toArray, List.set_cons_zero, List.set_cons_succ])
               | (refine quiet_extract _ 0 rfl #[.agg #[.int .i64 kx, .int .u8 zx, .slice ax lenx capx], .string t3, .slice p3 n3 c3, .bool r.isSome] _ rfl rfl ?_; refine hJ _ ?_; clear hJ J; try simp only [Act.put, List.setIfInBounds_toArray, List.set_cons_zero, List.set_cons_succ])
               | (refine quiet_extract _ 1 rfl #[.agg #[.int .i64 kx, .int .u8 zx, .slice ax lenx capx], .string t3, .slice p3 n3 c3, .bool r.isSome] _ rfl rfl ?_; refine hJ _ ?_; clear hJ J; try simp only [Act.put, List.setIfInBounds_toArray, List.set_cons_zero, List.set_cons_succ])
               | (refine quiet_extract _ 2 rfl #[.agg #[.int .i64 kx, .int .u8 zx, .slice ax lenx capx], .string t3, .slice p3 n3 c3, .bool r.isSome] _ rfl rfl ?_; refine hJ _ ?_; clear hJ J; try simp only [Act.put, List.setIfInBounds_toArray, List.set_cons_zero, List.set_cons_succ])
               | (refine quiet_extract _ 3 rfl #[.agg #[.int .i64 kx, .int .u8 zx, .slice ax lenx capx], .string t3, .slice p3 n3 c3, .bool r.isSome] _ rfl rfl ?_; refine hJ _ ?_; clear hJ J; try simp only [Act.put, List.setIfInBounds_toArray, List.set_cons_zero, List.set_cons_succ])
               | (refine quiet_extract _ _ rfl _ _ rfl rfl ?_; refine hJ _ ?_; clear hJ J; try simp only [Act.put, List.setIfInBounds_toArray, List.set_cons_zero, List.set_cons_succ])
               | (go_big_quiet_op; refine hJ _ ?_; clear hJ J; try simp only [Act.put, List.setIfInBounds_toArray, List.set_cons_zero, List.set_cons_succ])))
        refine' hold_sole ?_ ?_ (fun J hJ => ?_)
        rotate_left 1
        · simp only [List.getElem?_toArray, List.getElem?_cons_zero, List.getElem?_cons_succ]; exact rfl
        · exact rfl
        refine wp_alloc_rvk rfl ?_
        intro wa hza hba hsa
        have hBa : Below W.heap.size W wa := hB3.trans (hba.mono hB3.size)
        have hle : W.heap.size ≤ w3.heap.size := hB3.size
        have hq3 := fun v b2 s2 e => off_alloc (hr3 v b2 s2 e) hba
        refine hJ _ _ hBa ?_
        clear hJ J hba hsa
        try simp only [Act.put, List.setIfInBounds_toArray, List.set_cons_zero, List.set_cons_succ]
        refine' hold_sole ?_ ?_ (fun J hJ => ?_)
        rotate_left 1
        · simp only [List.getElem?_toArray, List.getElem?_cons_zero, List.getElem?_cons_succ]; exact rfl
        · exact rfl
        refine wp_store_rvk _ _ rfl w3.heap.size _ #[.int .i64 kx, .int .u8 zx, .slice ax lenx capx] rfl rfl hza rfl rfl (by simp [Value.oneCell']) ?_
        intro w4 hn4 ho4
        have hB4 : Below W.heap.size W w4 := ho4.below hBa hle
        have hr4 := fun v b2 s2 e => off_store (hq3 v b2 s2 e) ho4
        refine hJ _ _ hB4 ?_
        clear hJ J
        have H3 := Lib.hid (fun v b2 s2 e => (hq v b2 s2 e).2)
        have H4 := Lib.hid (And.intro hB4 hr4)
        have Hx4 := Lib.hid (rval3_in (cs := [.int .i64 kx, .int .u8 zx, .slice ax lenx capx]) hn4 rfl)
        clear hq hn4 ho4 hB4 hr4 hq3 
        try simp only [Act.put]
        repeat (first
            | (refine' hold_skip ?_ ?_ ?_
               rotate_left 1
               · simp only [List.getElem?_toArray, List.getElem?_cons_zero, List.getElem?_cons_succ]; exact rfl
               · exact rfl
               simp only [Act.put, List.setIfInBounds_toArray, List.set_cons_zero, List.set_cons_succ])
            | (refine' hold_want ?_ ?_ (fun J hJ => ?_)
               rotate_left 1
               · simp only [List.getElem?_toArray, List.getElem?_cons_zero, List.getElem?_cons_succ]; exact rfl
               · exact rfl
               first
               | (refine quiet_load_cores _ rfl ⟨w.heap.size, 258, none⟩ _ rfl (fun w' ⟨L, hL⟩ => ((hL ▸ L.ok : Below W.heap.size W w').cell (p := ⟨w.heap.size, 258, none⟩) (show w.heap.size < W.heap.size by have := HT.out.size; omega)).trans p258) ?_; refine hJ _ ?_; clear hJ J; try simp only [Act.put, List.setIfInBounds_toArray, List.set_cons_zero, List.set_cons_succ])
               | (refine quiet_load_rcore _ rfl cb (coff + 259) es1 rfl (fun w' ⟨L, hL⟩ => HE1.out _ (HbW.out.trans ((hL ▸ L.ok : Below W.heap.size W w').mono HbW.out.size))) ?_; refine hJ _ ?_; clear hJ J; try simp only [Act.put, List.setIfInBounds_toArray, List.set_cons_zero, List.set_cons_succ])
               | (refine quiet_tail_str _ _ rfl t rfl rfl Hts.out ?_; refine hJ _ ?_; clear hJ J; try simp only [Act.put, List.setIfInBounds_toArray, List.set_cons_zero, List.set_cons_succ])
               | (refine quiet_extract _ 0 rfl #[.agg #[.int .i64 kx, .int .u8 zx, .slice ax lenx capx], .string t3, .slice p3 n3 c3, .bool r.isSome] _ rfl rfl ?_; refine hJ _ ?_; clear hJ J; try simp only [Act.put, List.setIfInBounds_toArray, List.set_cons_zero, List.set_cons_succ])
               | (refine quiet_extract _ 1 rfl #[.agg #[.int .i64 kx, .int .u8 zx, .slice ax lenx capx], .string t3, .slice p3 n3 c3, .bool r.isSome] _ rfl rfl ?_; refine hJ _ ?_; clear hJ J; try simp only [Act.put, List.setIfInBounds_toArray, List.set_cons_zero, List.set_cons_succ])
               | (refine quiet_extract _ 2 rfl #[.agg #[.int .i64 kx, .int .u8 zx, .slice ax lenx capx], .string t3, .slice p3 n3 c3, .bool r.isSome] _ rfl rfl ?_; refine hJ _ ?_; clear hJ J; try simp only [Act.put, List.setIfInBounds_toArray, List.set_cons_zero, List.set_cons_succ])
               | (refine quiet_extract _ 3 rfl #[.agg #[.int .i64 kx, .int .u8 zx, .slice ax lenx capx], .string t3, .slice p3 n3 c3, .bool r.isSome] _ rfl rfl ?_; refine hJ _ ?_; clear hJ J; try simp only [Act.put, List.setIfInBounds_toArray, List.set_cons_zero, List.set_cons_succ])
               | (refine quiet_extract _ _ rfl _ _ rfl rfl ?_; refine hJ _ ?_; clear hJ J; try simp only [Act.put, List.setIfInBounds_toArray, List.set_cons_zero, List.set_cons_succ])
               | (go_big_quiet_op; refine hJ _ ?_; clear hJ J; try simp only [Act.put, List.setIfInBounds_toArray, List.set_cons_zero, List.set_cons_succ])))
        refine hold_done ?_
        have Hle := Lib.hid hle
        go_wp2_with (first
          | (refine wpList_load_refval rfl _ rfl w3.heap.size 0 _ rfl Hx4.out ?_)
          | (refine wpList_build_rv1 rfl _ rfl [.int .i64 kx, .int .u8 zx, .slice ax lenx capx] rfl rfl ?_; intro w6 hn6 hb6 hs6; have H6 := Lib.hid (And.intro hn6 (And.intro hb6 (And.intro hs6 (H4.out.1.trans (hb6.mono H4.out.1.size))))); clear hn6 hb6 hs6)
          | (refine wpList_store_rv rfl _ _ rfl (w.heap.size + 1) _ #[.int .i64 5, .int .u8 0, .slice (some ⟨w4.heap.size, 0, none⟩) 1 1] rfl rfl (RBox.box HT.out H6.out.2.2.2) rfl rfl (by simp [Value.oneCell']) ?_; intro w5 hn5 ho5; have H5 := Lib.hid (And.intro hn5 ho5); clear hn5 ho5)
          | fail)
        refine bodyPost_ret (results_got rfl _ _ (w.heap.size + 1) _ rfl H5.out.1 rfl) rfl ?_
        rw [HR.out]
        cases r with
        | none => exact rgot_none HT.out H6.out.2.2.2 H5.out.2
        | some q =>
          obtain ⟨v, b2, s2⟩ := q
          obtain ⟨rfl, h3, h4⟩ := H3.out _ _ _ rfl
          exact rgot_some HT.out H6.out.2.2.2 H5.out.2 (refIn_row1 rfl (refIn_below (H4.out.2 _ _ _ rfl) H6.out.2.1) H6.out.1 H4.out.1.size) h3 h4

      · refine' hold_step ?_ ?_ (fun J hJ => ?_)
        rotate_left 1
        · simp only [List.getElem?_toArray, List.getElem?_cons_zero, List.getElem?_cons_succ]; exact rfl
        · exact rfl
        refine wp_alloc_rvk rfl ?_
        intro wa hza hba hsa
        have hBa : Below W.heap.size W wa := hBd.trans (hba.mono hBd.size)
        have hle : W.heap.size ≤ wd.heap.size := hBd.size
        refine hJ _ _ hBa ?_
        clear hJ J hba hsa
        try simp only [Act.put, List.setIfInBounds_toArray, List.set_cons_zero, List.set_cons_succ]
        refine' hold_sole ?_ ?_ (fun J hJ => ?_)
        rotate_left 1
        · simp only [List.getElem?_toArray, List.getElem?_cons_zero, List.getElem?_cons_succ]; exact rfl
        · exact rfl
        go_simp
        refine (Hcl.out _ hBa).mono ?_
        rintro e w3 ⟨kx, zx, ax, lenx, capx, t3, p3, n3, c3, rfl, hb3, hq⟩
        have hB3 : Below W.heap.size W w3 := hBa.trans (hb3.mono hBa.size)
        have hz3 := hza.below hb3 hza.lt
        have hq3 := fun v b2 s2 e => off_call (B := W.heap.size) (b := wd.heap.size) (hq v b2 s2 e).1 hBa.size hza.lt
        refine hJ _ _ hB3 ?_
        clear hJ J hb3
        try simp only [Act.put, List.setIfInBounds_toArray, List.set_cons_zero, List.set_cons_succ]
        repeat (first
            | (refine' hold_skip ?_ ?_ ?_
               rotate_left 1
               · simp only [List.getElem?_toArray, List.getElem?_cons_zero, List.getElem?_cons_succ]; exact rfl
               · exact rfl
               simp only [Act.put, List.setIfInBounds_toArray, List.set_cons_zero, List.set_cons_succ])
            | (refine' hold_want ?_ ?_ (fun J hJ => ?_)
               rotate_left 1
               · simp only [List.getElem?_toArray, List.getElem?_cons_zero, List.getElem?_cons_succ]; exact rfl
               · exact rfl
               first
               | (refine quiet_load_cores _ rfl ⟨w.heap.size, 258, none⟩ _ rfl (fun w' ⟨L, hL⟩ => ((hL ▸ L.ok : Below W.heap.size W w').cell (p := ⟨w.heap.size, 258, none⟩) (show w.heap.size < W.heap.size by have := HT.out.size; omega)).trans p258) ?_; refine hJ _ ?_; clear hJ J; try simp only [Act.put, List.setIfInBounds_toArray, List.set_cons_zero, List.set_cons_succ])
               | (refine quiet_load_rcore _ rfl cb (coff + 259) es1 rfl (fun w' ⟨L, hL⟩ => HE1.out _ (HbW.out.trans ((hL ▸ L.ok : Below W.heap.size W w').mono HbW.out.size))) ?_; refine hJ _ ?_; clear hJ J; try simp only [Act.put, List.setIfInBounds_toArray, List.set_cons_zero, List.set_cons_succ])
               | (refine quiet_tail_str _ _ rfl t rfl rfl Hts.out ?_; refine hJ _ ?_; clear hJ J; try simp only [Act.put, List.setIfInBounds_toArray, List.set_cons_zero, List.set_cons_succ])
               | (refine quiet_extract _ 0 rfl #[.agg #[.int .i64 kx, .int .u8 zx, .slice ax lenx capx], .string t3, .slice p3 n3 c3, .bool r.isSome] _ rfl rfl ?_; refine hJ _ ?_; clear hJ J; try simp only [Act.put, List.setIfInBounds_toArray, List.set_cons_zero, List.set_cons_succ])
               | (refine quiet_extract _ 1 rfl #[.agg #[.int .i64 kx, .int .u8 zx, .slice ax lenx capx], .string t3, .slice p3 n3 c3, .bool r.isSome] _ rfl rfl ?_; refine hJ _ ?_; clear hJ J; try simp only [Act.put, List.setIfInBounds_toArray, List.set_cons_zero, List.set_cons_succ])
               | (refine quiet_extract _ 2 rfl #[.agg #[.int .i64 kx, .int .u8 zx, .slice ax lenx capx], .string t3, .slice p3 n3 c3, .bool r.isSome] _ rfl rfl ?_; refine hJ _ ?_; clear hJ J; try simp only [Act.put, List.setIfInBounds_toArray, List.set_cons_zero, List.set_cons_succ])
               | (refine quiet_extract _ 3 rfl #[.agg #[.int .i64 kx, .int .u8 zx, .slice ax lenx capx], .string t3, .slice p3 n3 c3, .bool r.isSome] _ rfl rfl ?_; refine hJ _ ?_; clear hJ J; try simp only [Act.put, List.setIfInBounds_toArray, List.set_cons_zero, List.set_cons_succ])
               | (refine quiet_extract _ _ rfl _ _ rfl rfl ?_; refine hJ _ ?_; clear hJ J; try simp only [Act.put, List.setIfInBounds_toArray, List.set_cons_zero, List.set_cons_succ])
               | (go_big_quiet_op; refine hJ _ ?_; clear hJ J; try simp only [Act.put, List.setIfInBounds_toArray, List.set_cons_zero, List.set_cons_succ])))
        refine' hold_sole ?_ ?_ (fun J hJ => ?_)
        rotate_left 1
        · simp only [List.getElem?_toArray, List.getElem?_cons_zero, List.getElem?_cons_succ]; exact rfl
        · exact rfl
        refine wp_store_rvk _ _ rfl wd.heap.size _ #[.int .i64 kx, .int .u8 zx, .slice ax lenx capx] rfl rfl hz3 rfl rfl (by simp [Value.oneCell']) ?_
        intro w4 hn4 ho4
        have hB4 : Below W.heap.size W w4 := ho4.below hB3 hle
        have hr4 := fun v b2 s2 e => off_store (hq3 v b2 s2 e) ho4
        refine hJ _ _ hB4 ?_
        clear hJ J
        have H3 := Lib.hid (fun v b2 s2 e => (hq v b2 s2 e).2)
        have H4 := Lib.hid (And.intro hB4 hr4)
        have Hx4 := Lib.hid (rval3_in (cs := [.int .i64 kx, .int .u8 zx, .slice ax lenx capx]) hn4 rfl)
        clear hq hn4 ho4 hB4 hr4 hq3 
        try simp only [Act.put]
        repeat (first
            | (refine' hold_skip ?_ ?_ ?_
               rotate_left 1
               · simp only [List.getElem?_toArray, List.getElem?_cons_zero, List.getElem?_cons_succ]; exact rfl
               · exact rfl
               simp only [Act.put, List.setIfInBounds_toArray, List.set_cons_zero, List.set_cons_succ])
            | (refine' hold_want ?_ ?_ (fun J hJ => ?_)
               rotate_left 1
               · simp only [List.getElem?_toArray, List.getElem?_cons_zero, List.getElem?_cons_succ]; exact rfl
               · exact rfl
               first
               | (refine quiet_load_cores _ rfl ⟨w.heap.size, 258, none⟩ _ rfl (fun w' ⟨L, hL⟩ => ((hL ▸ L.ok : Below W.heap.size W w').cell (p := ⟨w.heap.size, 258, none⟩) (show w.heap.size < W.heap.size by have := HT.out.size; omega)).trans p258) ?_; refine hJ _ ?_; clear hJ J; try simp only [Act.put, List.setIfInBounds_toArray, List.set_cons_zero, List.set_cons_succ])
               | (refine quiet_load_rcore _ rfl cb (coff + 259) es1 rfl (fun w' ⟨L, hL⟩ => HE1.out _ (HbW.out.trans ((hL ▸ L.ok : Below W.heap.size W w').mono HbW.out.size))) ?_; refine hJ _ ?_; clear hJ J; try simp only [Act.put, List.setIfInBounds_toArray, List.set_cons_zero, List.set_cons_succ])
               | (refine quiet_tail_str _ _ rfl t rfl rfl Hts.out ?_; refine hJ _ ?_; clear hJ J; try simp only [Act.put, List.setIfInBounds_toArray, List.set_cons_zero, List.set_cons_succ])
               | (refine quiet_extract _ 0 rfl #[.agg #[.int .i64 kx, .int .u8 zx, .slice ax lenx capx], .string t3, .slice p3 n3 c3, .bool r.isSome] _ rfl rfl ?_; refine hJ _ ?_; clear hJ J; try simp only [Act.put, List.setIfInBounds_toArray, List.set_cons_zero, List.set_cons_succ])
               | (refine quiet_extract _ 1 rfl #[.agg #[.int .i64 kx, .int .u8 zx, .slice ax lenx capx], .string t3, .slice p3 n3 c3, .bool r.isSome] _ rfl rfl ?_; refine hJ _ ?_; clear hJ J; try simp only [Act.put, List.setIfInBounds_toArray, List.set_cons_zero, List.set_cons_succ])
               | (refine quiet_extract _ 2 rfl #[.agg #[.int .i64 kx, .int .u8 zx, .slice ax lenx capx], .string t3, .slice p3 n3 c3, .bool r.isSome] _ rfl rfl ?_; refine hJ _ ?_; clear hJ J; try simp only [Act.put, List.setIfInBounds_toArray, List.set_cons_zero, List.set_cons_succ])
               | (refine quiet_extract _ 3 rfl #[.agg #[.int .i64 kx, .int .u8 zx, .slice ax lenx capx], .string t3, .slice p3 n3 c3, .bool r.isSome] _ rfl rfl ?_; refine hJ _ ?_; clear hJ J; try simp only [Act.put, List.setIfInBounds_toArray, List.set_cons_zero, List.set_cons_succ])
               | (refine quiet_extract _ _ rfl _ _ rfl rfl ?_; refine hJ _ ?_; clear hJ J; try simp only [Act.put, List.setIfInBounds_toArray, List.set_cons_zero, List.set_cons_succ])
               | (go_big_quiet_op; refine hJ _ ?_; clear hJ J; try simp only [Act.put, List.setIfInBounds_toArray, List.set_cons_zero, List.set_cons_succ])))
        refine hold_done ?_
        have Hle := Lib.hid hle
        go_wp2_with (first
          | (refine wpList_load_refval rfl _ rfl wd.heap.size 0 _ rfl Hx4.out ?_)
          | (refine wpList_build_rv1 rfl _ rfl [.int .i64 kx, .int .u8 zx, .slice ax lenx capx] rfl rfl ?_; intro w6 hn6 hb6 hs6; have H6 := Lib.hid (And.intro hn6 (And.intro hb6 (And.intro hs6 (H4.out.1.trans (hb6.mono H4.out.1.size))))); clear hn6 hb6 hs6)
          | (refine wpList_store_rv rfl _ _ rfl (w.heap.size + 1) _ #[.int .i64 5, .int .u8 0, .slice (some ⟨w4.heap.size, 0, none⟩) 1 1] rfl rfl (RBox.box HT.out H6.out.2.2.2) rfl rfl (by simp [Value.oneCell']) ?_; intro w5 hn5 ho5; have H5 := Lib.hid (And.intro hn5 ho5); clear hn5 ho5)
          | fail)
        refine bodyPost_ret (results_got rfl _ _ (w.heap.size + 1) _ rfl H5.out.1 rfl) rfl ?_
        rw [HR.out]
        cases r with
        | none => exact rgot_none HT.out H6.out.2.2.2 H5.out.2
        | some q =>
          obtain ⟨v, b2, s2⟩ := q
          obtain ⟨rfl, h3, h4⟩ := H3.out _ _ _ rfl
          exact rgot_some HT.out H6.out.2.2.2 H5.out.2 (refIn_row1 rfl (refIn_below (H4.out.2 _ _ _ rfl) H6.out.2.1) H6.out.1 H4.out.1.size) h3 h4


    have n48 : ¬ (c : Int) = 48 := by omega
    have n49 : ¬ (c : Int) = 49 := by omega
    have d48 : ((c : Int) == 48) = false := by simpa using n48
    have d49 : ((c : Int) == 49) = false := by simpa using n49
    have b48 : ((c : Int) != 48) = true := by simpa using n48
    have b49 : ((c : Int) != 49) = true := by simpa using n49
    have HR : Hid (R = none) := Lib.hid (by rw [hR]; show (if c = 48 then _ else if c = 49 then _ else none) = none; rw [if_neg h48, if_neg h49])
    clear hR hbs h48 h49
    generalize K.rcCells 4 st n (.slice (some ⟨cb, coff, none⟩) 2 cap0) = C at hW hT ⊢
    have HT := Lib.hid hT
    have HbW := Lib.hid hbW
    have Ht := Lib.hid ht
    have Hs := Lib.hid hs
    clear hT hcc hb hbW ht hs
    go_enter Try.func50, Try.ntmps50
    go_upto_region 1 with (first
      | (refine Go.Great.wpList_boxTo rfl _ _ rfl _ rfl w.heap.size rfl C.toArray rfl ?_)
      | fail)
    rw [← hW]
    clear hW
    have hRn : R = none := HR.out
    have HRn := Lib.hid hRn
    clear hRn
    go_wp2_with (first
      | (refine wpList_store_rv rfl _ _ rfl (w.heap.size + 1) _ #[.int .i64 0, .int .u8 0, .slice none 0 0] rfl rfl (RBox.box HT.out (Below.refl _ _)) rfl rfl (by simp [Value.oneCell']) ?_; intro w5 hn5 ho5; have H5 := Lib.hid (And.intro hn5 ho5); clear hn5 ho5)
      | fail)
    refine bodyPost_ret (results_got rfl _ _ (w.heap.size + 1) _ rfl H5.out.1 rfl) rfl ?_
    rw [HRn.out]
    exact rgot_none HT.out (Below.refl _ _) H5.out.2


end V
end Go.Proofs.Ytklmomgccmekkaa
namespace Go.Proofs.Ytklmomgccmekkaa
namespace V
set_option maxRecDepth 100000
open Go.RowKit
open K (veil veil_size veil_block veil_cell)
def RGrow (w1 : World) (g : Nat) (v : Value) (acc : List (Vl × List Value)) (W : World) : Prop :=
  (∀ p ∈ acc, RefIn (onRow w1.heap.size v) W p.1 p.2) ∧ RBox W g #[.int .i64 6, .int .u8 0, v] ∧ W.ownsRow w1.heap.size 47 3 v acc.length (acc.flatMap (·.2)) ∧ Kept g g w1 W
theorem RGrow.start {w1 : World} {g : Nat} (h : RBox w1 g #[.int .i64 6, .int .u8 0, .slice none 0 0]) : RGrow w1 g (.slice none 0 0) [] w1 :=
  ⟨(fun p hp => by cases hp), h, World.ownsRow_nil _ _ _ _, Kept.refl _ _ _⟩
theorem RGrow.later {w1 W W' : World} {g : Nat} {v : Value} {acc : List (Vl × List Value)} (h : RGrow w1 g v acc W) (hb : Below W.heap.size W W') : RGrow w1 g v acc W' := by
  obtain ⟨h1, h2, h3, h4⟩ := h
  exact ⟨fun p hp => (h1 p hp).mono hb.size fun q h5 h6 => ⟨h5, hb.block q h6⟩, h2.below hb h2.lt, owns_below h3 hb, h4.trans (Kept.of_below hb)⟩
theorem RGrow.more {w1 W w5 : World} {g : Nat} {v v' : Value} {acc : List (Vl × List Value)} {y : Vl} {cs : List Value} {B2 : Nat} (h : RGrow w1 g v acc W) (hg : g < w1.heap.size) (hB : w1.heap.size ≤ B2) (hy : RefIn (fromV B2) W y cs)
    (hv : ∀ q, v.ownBlock = some q → q < B2) (ho : w5.ownsRow w1.heap.size 47 3 v' (acc.length + 1) (acc.flatMap (·.2) ++ cs)) (hgr : W.grownBy w5 v.ownBlock)
    (hf : v'.ownBlock = v.ownBlock ∨ v'.ownBlock = some W.heap.size) : RGrow w1 g v' (acc ++ [(y, cs)]) (w5.setCell ⟨g, 2, none⟩ v') := by
  obtain ⟨h1, h2, h3, h4⟩ := h
  have hs5 := hgr.size
  have hs1 := h4.size
  have hkeep : ∀ q, q < W.heap.size → q ≠ g → v.ownBlock ≠ some q → (w5.setCell ⟨g, 2, none⟩ v').heap[q]? = W.heap[q]? := fun q hq hne hvq => by
    rw [heap_setCell_other _ _ _ _ hne]
    exact hgr.block q hq (fun e => hvq e.symm)
  have hv' : ∀ q, q < W.heap.size → v.ownBlock ≠ some q → v'.ownBlock ≠ some q := fun q hq hne e => by
    rcases hf with hf | hf
    · exact hne (by rw [← hf, e])
    · rw [hf] at e; injection e with e; omega
  have hgv : v.ownBlock ≠ some g := fun e => by have := (h3.lt g e).1; omega
  have hbx : RBox w5 g #[.int .i64 6, .int .u8 0, v] := (hgr.block g (by omega) (fun e => hgv e.symm)).trans h2
  refine ⟨?_, ?_, ?_, ?_⟩
  · intro p hp
    rcases List.mem_append.1 hp with hp | hp
    · refine (h1 p hp).mono (by simp; omega) fun q hq hlt => ?_
      simp only [onRow, Bool.and_eq_true, decide_eq_true_eq] at hq ⊢
      exact ⟨⟨hq.1, hv' q hlt hq.2⟩, hkeep q hlt (by omega) hq.2⟩
    · rw [List.mem_singleton] at hp
      subst hp
      refine hy.mono (by simp; omega) fun q hq hlt => ?_
      simp only [onRow, fromV, Bool.and_eq_true, decide_eq_true_eq] at hq ⊢
      have hne : v.ownBlock ≠ some q := fun e => by have := hv q e; omega
      exact ⟨⟨by omega, hv' q hlt hne⟩, hkeep q hlt (by omega) hne⟩
  · show _ = _
    rw [heap_setCell_same w5 g 2 _ _ _ hbx]; rfl
  · rw [List.flatMap_append, List.length_append]
    have h := ownsRow_setCell_below ho (a := ⟨g, 2, none⟩) hg v'
    simpa using h
  · exact ⟨hgr.os.trans h4.os, hgr.tape.trans h4.tape, hgr.output.trans h4.output, by simp; omega, fun q hq hR hg' => by
      rw [hkeep q (by omega) hg' (fun e => by have := (h3.lt q e).1; omega)]
      exact h4.block q hq hR hg'⟩
theorem RGrow.made {w1 W : World} {g : Nat} {v : Value} {acc : List (Vl × List Value)} (h : RGrow w1 g v acc W) (hn : acc.length ≤ maxLen) : RefIn (fromV w1.heap.size) W (.mk 6 0 (acc.map (·.1))) [.int .i64 6, .int .u8 0, v] := by
  obtain ⟨h1, _, ho, _⟩ := h
  exact refIn_made (k := 6) (z := 0) (l := acc.map (·.1)) ⟨by rfl, by decide⟩ acc rfl (by rw [List.length_map]; exact hn) (fun q hq => (h1 q hq).mono (Nat.le_refl _) fun b hb _ => by
    simp only [onRow, Bool.and_eq_true, decide_eq_true_eq] at hb
    exact ⟨decide_eq_true hb.1, rfl⟩) (fun k hk => decide_eq_true hk) (by rw [List.length_map]; exact ho)
theorem RGrow.slice {w1 W : World} {g : Nat} {v : Value} {acc : List (Vl × List Value)} (h : RGrow w1 g v acc W) : ∃ a cap, v = .slice a acc.length cap := by
  obtain ⟨a, cap, e⟩ := owns_form h.2.2.1
  exact ⟨a, cap, e⟩
theorem wpList_append_rv {ops : Array Oper} {rest : List Oper} {o : Oper} {a : Act} {w : World} {Q : Exit → Act → World → Prop} (hgd : o.guard = none) (s x : Operand) (ho : o.op = .call { callee := .builtin .append, args := #[s, x], argTypes := #[45, 45] })
    (base : Nat) (v : Value) (n : Nat) (xs : List Value) (hs : a.eval s = v) (hown : w.ownsRow base 47 3 v n xs) (b : Nat) (cs : List Value) (hx : a.eval x = .slice (some ⟨b, 0, none⟩) 1 1) (hc : RBox w b cs.toArray) (hcl : cs.length = 3)
    (h1 : ∀ u ∈ cs, u.oneCell' = true) (hn : n < 400000000000) (hbase : base ≤ w.heap.size)
    (h : ∀ v' w', w'.ownsRow base 47 3 v' (n + 1) (xs ++ cs) → w.grownBy w' v.ownBlock → (v'.ownBlock = v.ownBlock ∨ v'.ownBlock = some w.heap.size) → wpList Try.prog ops Q rest (a.put o.dst v') w') : wpList Try.prog ops Q (o :: rest) a w :=
  wpList_plain hgd fun _ hK => wp_append_refval s x ho base v n xs hs hown b cs hx hc hcl h1 hn hbase (fun v' w' h2 h3 h4 => hK _ _ (h v' w' h2 h3 h4))
end V
end Go.Proofs.Ytklmomgccmekkaa
namespace Go.Proofs.Ytklmomgccmekkaa
namespace V
set_option maxRecDepth 100000
open Go.RowKit
open K (veil veil_size veil_block veil_cell)
set_option maxHeartbeats 16000000 in
theorem rg_5 {Wc : World} (st : BitVec 256) (n : Int) (c0 : K.Cr) (cs : List Value) (hat : K.Cr.ref Wc (.mk 5 st n [c0]) cs) (ih0 : ∀ cs, K.Cr.ref Wc c0 cs → RGotOk Wc (got c0) cs) : RGotOk Wc (gotT 5 st ([c0].map got)) cs := by
  intro t s p cap w hb ht hs
  rw [K.refc_mk] at hat
  obtain ⟨_, _, a, cap0, rfl, hmax, hl⟩ := hat
  replace hl := (show 1 = 0 ∨ _ from hl)
  replace hmax : 1 ≤ maxLen := hmax
  obtain ⟨cb, coff, rfl, hcap, hcb, hcr⟩ := hl.resolve_left (by decide)
  obtain ⟨es0, hes0, hcell0, hch0⟩ := K.coresRef_get Wc cb [c0] coff hcr 0 (by simp)
  have HE0 := Lib.hid (fun (w' : World) (h : Below Wc.heap.size Wc w') => (⟨hes0, fun q hq => by rw [h.cell (p := ⟨cb, coff + 0 + q, none⟩) hcb]; exact hcell0 q hq⟩ : K.RefC w' cb (coff + 0) es0))
  have HI0 := Lib.hid (ih0 es0 hch0)
  clear hcell0 hch0 hes0 ih0
  clear hcr hl hcb hcap hmax
  obtain ⟨W, hW⟩ : ∃ W, W = (w.alloc (.cells (K.rcCells 5 st n (.slice (some ⟨cb, coff, none⟩) 1 cap0)).toArray 54)).alloc (.cells #[.int .i64 0, .int .u8 0, .slice none 0 0] 47) := ⟨_, rfl⟩
  have hT : Twain w W (K.rcCells 5 st n (.slice (some ⟨cb, coff, none⟩) 1 cap0)) := by rw [hW]; exact twain _ _
  have hcc := K.ccells_box hT.core
  have p0 : W.cell? ⟨w.heap.size, 0, none⟩ = some (.int .i64 5) := hcc.c0
  have p258 : W.cell? ⟨w.heap.size, 258, none⟩ = some (.slice (some ⟨cb, coff, none⟩) 1 cap0) := hcc.c258
  have hbW : Below Wc.heap.size Wc W := hb.trans (hT.bel.mono hb.size)
  have HC := Lib.hid hcc
  have hmx : (s.length : Int) ≤ 9223372036854775807 := by have := hs.2; omega
  obtain ⟨r, hr⟩ : ∃ r, r = starT (got c0) ((nats t).length + 1) [] (nats t) s := ⟨_, rfl⟩
  show Calls _ _ _ _ (RGot Wc w (starT (got c0) ((nats t).length + 1) [] (nats t) s))
  rw [← hr]
  have Hr := Lib.hid hr
  clear hr
  obtain ⟨W2, hW2⟩ : ∃ W2, W2 = W.alloc (.cells #[.int .i64 6, .int .u8 0, .slice none 0 0] 47) := ⟨_, rfl⟩
  have hal2 : Below W.heap.size W W2 := by rw [hW2]; exact _root_.Go.Proofs.Ytklmomgccmekkaa.K.alloc_below _ _
  have hs2 : W2.heap.size = W.heap.size + 1 := by rw [hW2]; simp
  have hg0 : RGrow W2 W.heap.size (.slice none 0 0) [] W2 := RGrow.start (by rw [hW2]; exact rbox_start _ _)
  have H2 := Lib.hid (And.intro hal2 (And.intro hs2 hg0))
  clear hal2 hs2 hg0
  generalize K.rcCells 5 st n (.slice (some ⟨cb, coff, none⟩) 1 cap0) = C at hW hT ⊢
  have HT := Lib.hid hT
  have HbW := Lib.hid hbW
  have Ht := Lib.hid ht
  have Hs := Lib.hid hs
  clear hT hcc hb hbW ht hs
  go_enter Try.func50, Try.ntmps50
  go_upto_region 1 with (first
    | (refine Go.Great.wpList_boxTo rfl _ _ rfl _ rfl w.heap.size rfl C.toArray rfl ?_)
    | fail)
  rw [← hW]
  clear hW
  go_upto_region 22 with fail
  rw [← hW2]
  clear hW2
  go_loopg [1, 2] ((nats t).length + 1) (fun k u1 u2 wr => ∃ (v : Value) (acc : List (Vl × List Value)) (t1 : ByteArray) (s1 : List Nat) (p1 : Option Addr) (c1 : Nat), u1 = .string t1 ∧ u2 = .slice p1 s1.length c1 ∧ Hid ((nats t1).length < k ∧ t1.size ≤ 9223372036854775807) ∧ Hid (acc.length + s1.length ≤ s.length) ∧ Hid (r = starT (got c0) k (acc.map (·.1)) (nats t1) s1) ∧ Hid (RGrow W2 W.heap.size v acc wr) ∧ Hid (BytesS Wc p1 s1.length c1 s1))
  case atStart => exact ⟨_, [], t, s, p, cap, rfl, rfl, Lib.hid ⟨Nat.lt_succ_self _, Ht.out⟩, Lib.hid (by simp), Hr, Lib.hid H2.out.2.2, Hs⟩
  case round =>
    obtain ⟨v, acc, t1, s1, p1, c1, hu1, hu2, hk, hlen, hst, hG, hB⟩ := hrel
    subst hu1 hu2
    cases gk with
    | zero => exact absurd hk.out.1 (by omega)
    | succ k =>
    obtain ⟨av, capv, hv⟩ := hG.out.slice
    obtain ⟨m, hm⟩ : ∃ m, m = acc.length := ⟨_, rfl⟩
    rw [← hm] at hv
    subst hv
    have HN := Lib.hid hm
    have hn256 : m ≤ 256 := by have := hlen.out; have := Hs.out.2; omega
    have hm1 : (s1.length : Int) ≤ 9223372036854775807 := by have := hB.out.2; omega
    clear hm
    have hbr : Below W.heap.size W wr := hG.out.2.2.2.below H2.out.1 (Nat.le_refl _) (Nat.le_refl _) H2.out.1.size
    have p258r : wr.cell? ⟨w.heap.size, 258, none⟩ = _ := (hbr.cell (p := ⟨w.heap.size, 258, none⟩) (show w.heap.size < W.heap.size by have := HT.out.size; omega)).trans p258
    have HBw := Lib.hid hbr
    clear hbr
    cases hbs : nats t1 with
    | nil =>
      have Hrn := Lib.hid (show r = none by rw [hst.out, hbs, starT])
      obtain rfl : t1 = ⟨#[]⟩ := bytes_empty hbs
      clear hbs
      go_wp2_with (first
        | (refine wpList_store_rv rfl _ _ rfl (w.heap.size + 1) _ #[.int .i64 0, .int .u8 0, .slice none 0 0] rfl rfl (RBox.box HT.out HBw.out) rfl rfl (by simp [Value.oneCell']) ?_; intro w5 hn5 ho5; have H5 := Lib.hid (And.intro hn5 ho5); clear hn5 ho5)
        | fail)
      refine bodyPost_ret (results_got rfl _ _ (w.heap.size + 1) _ rfl H5.out.1 rfl) rfl ?_
      rw [Hrn.out]
      exact rgot_none HT.out HBw.out H5.out.2

    | cons c bs =>
      have ts0 : 0 < t1.size := by rw [← nats_length, hbs]; simp
      have tsI : (0 : Int) < t1.size := by omega
      have tsI1 : (1 : Int) ≤ t1.size := by omega
      have te : decide ((t1.size : Int) = 0) = false := decide_eq_false (by omega)
      have te2 : ((t1.size : Int) == 0) = false := by simpa using (show ¬ (t1.size : Int) = 0 by omega)
      have tg : decide ((t1.size : Int) > 0) = true := decide_eq_true (by omega)
      have tg2 : decide ((0 : Int) < t1.size) = true := decide_eq_true (by omega)
      have tf : ((t1[0]'ts0).toNat : Int) = (c : Nat) := by rw [nats_first ts0, hbs]; rfl
      by_cases h48 : c = 48
      · obtain rfl := h48
        replace tf : ((t1[0]'ts0).toNat : Int) = 48 := tf
        obtain ⟨q0, hq0⟩ : ∃ q0, q0 = got c0 bs s1 := ⟨_, rfl⟩
        have hstk := hst.out
        rw [hbs, starT, if_pos rfl, ← hq0] at hstk
        have hbc : Below Wc.heap.size Wc wr := HbW.out.trans (HBw.out.mono HbW.out.size)
        have hcl := fun (w' : World) (h : Below wr.heap.size wr w') => HI0.out (t1.extract 1 t1.size) s1 p1 c1 w' (hbc.trans (h.mono hbc.size)) (by have := hk.out.2; rw [ByteArray.size_extract]; omega) hB.out
        rw [nats_tail, hbs, List.tail_cons, ← hq0] at hcl
        have Hcl := Lib.hid hcl
        have Hts := Lib.hid ts0
        have Hbc := Lib.hid hbc
        have Hstk := Lib.hid hstk
        have Hq0 := Lib.hid hq0
        have Hbs := Lib.hid hbs
        clear hcl hbc hstk hq0 hbs
        go_wp2_with fail
        obtain ⟨wd, hwd⟩ : ∃ wd, wd = wr.drew := ⟨_, rfl⟩
        have hBd : Below wr.heap.size wr wd := by rw [hwd]; exact (Below.refl _ _).drew
        refine wp_region_hold (fun w' => Below wr.heap.size wr w') (.plain 0 (.plain 1 (.plain 2 (.plain 3 (.plain 4 (.plain 5 (.plain 6 (.fork 7 (.plain 8 (.plain 9 (.plain 10 (.plain 11 (.plain 12 (.sole 13 (.sole 14 (.plain 15 (.plain 16 (.plain 17 .done)))))))))) 13 (.sole 7 (.plain 8 (.plain 9 (.plain 10 (.plain 11 (.plain 12 (.sole 14 (.plain 15 (.plain 16 (.plain 17 .done)))))))))))))))))) (by rw [← hwd]; exact hBd) (by kernel_rfl) (by kernel_rfl) (fun c a d v w h => by cases d <;> exact h) ?_
        rw [← hwd]
        clear hwd
        have hne : Nonempty (HeldW (fun w' => Below wr.heap.size wr w')) := HeldW.nonempty hBd
        repeat (first
            | (refine' hold_skip ?_ ?_ ?_
               rotate_left 1
               · simp only [List.getElem?_toArray, List.getElem?_cons_zero, List.getElem?_cons_succ]; exact rfl
               · exact rfl
               simp only [Act.put, List.setIfInBounds_toArray, List.set_cons_zero, List.set_cons_succ])
            | (refine' hold_want ?_ ?_ (fun J hJ => ?_)
               rotate_left 1
               · simp only [List.getElem?_toArray, List.getElem?_cons_zero, List.getElem?_cons_succ]; exact rfl
               · exact rfl
               first
               | (refine quiet_load_cores _ rfl ⟨w.heap.size, 258, none⟩ _ rfl (fun w' ⟨L, hL⟩ => ((hL ▸ L.ok : Below wr.heap.size wr w').cell (p := ⟨w.heap.size, 258, none⟩) (show w.heap.size < wr.heap.size by have := HT.out.size; have := HBw.out.size; omega)).trans p258r) ?_; refine hJ _ ?_; clear hJ J; try simp only [Act.put, List.setIfInBounds_toArray, List.set_cons_zero, List.set_cons_succ])
               | (refine quiet_load_rcore _ rfl cb (coff + 0) es0 rfl (fun w' ⟨L, hL⟩ => HE0.out _ (Hbc.out.trans ((hL ▸ L.ok : Below wr.heap.size wr w').mono Hbc.out.size))) ?_; refine hJ _ ?_; clear hJ J; try simp only [Act.put, List.setIfInBounds_toArray, List.set_cons_zero, List.set_cons_succ])
               | (refine quiet_tail_str _ _ rfl t1 rfl rfl Hts.out ?_; refine hJ _ ?_; clear hJ J; try simp only [Act.put, List.setIfInBounds_toArray, List.set_cons_zero, List.set_cons_succ])
               | (refine quiet_extract _ 0 rfl #[.agg #[.int .i64 kx, .int .u8 zx, .slice ax lenx capx], .string t3, .slice p3 n3 c3, .bool q0.isSome] _ rfl rfl ?_; refine hJ _ ?_; clear hJ J; try simp only [Act.put, List.setIfInBounds_toArray, List.set_cons_zero, List.set_cons_succ])
               | (refine quiet_extract _ 1 rfl #[.agg #[.int .i64 kx, .int .u8 zx, .slice ax lenx capx], .string t3, .slice p3 n3 c3, .bool q0.isSome] _ rfl rfl ?_; refine hJ _ ?_; clear hJ J; try simp only [Act.put, List.setIfInBounds_toArray, List.set_cons_zero, List.set_cons_succ])
               | (refine quiet_extract _ 2 rfl #[.agg #[.int .i64 kx, .int .u8 zx, .slice ax lenx capx], .string t3, .slice p3 n3 c3, .bool q0.isSome] _ rfl rfl ?_; refine hJ _ ?_; clear hJ J; try simp only [Act.put, List.setIfInBounds_toArray, List.set_cons_zero, List.set_cons_succ])
               | (refine quiet_extract _ 3 rfl #[.agg #[.int .i64 kx, .int .u8 zx, .slice ax lenx capx], .string t3, .slice p3 n3 c3, .bool q0.isSome] _ rfl rfl ?_; refine hJ _ ?_; clear hJ J; try simp only [Act.put, List.setIfInBounds_toArray, List.set_cons_zero, List.set_cons_succ])
               | (refine quiet_extract _ _ rfl _ _ rfl rfl ?_; refine hJ _ ?_; clear hJ J; try simp only [Act.put, List.setIfInBounds_toArray, List.set_cons_zero, List.set_cons_succ])
               | (go_big_quiet_op; refine hJ _ ?_; clear hJ J; try simp only [Act.put, List.setIfInBounds_toArray, List.set_cons_zero, List.set_cons_succ])))
        refine hold_fork ?_ ?_
        · refine' hold_step ?_ ?_ (fun J hJ => ?_)
          rotate_left 1
          · simp only [List.getElem?_toArray, List.getElem?_cons_zero, List.getElem?_cons_succ]; exact rfl
          · exact rfl
          go_simp
          refine (Hcl.out _ hBd).mono ?_
          rintro e w3 ⟨kx, zx, ax, lenx, capx, t3, p3, n3, c3, rfl, hb3, hq⟩
          have hB3 : Below wr.heap.size wr w3 := hBd.trans (hb3.mono hBd.size)
          have hr3 := fun v b2 s2 e => refIn_from (hq v b2 s2 e).1 hBd.size
          refine hJ _ _ hB3 ?_
          clear hJ J hb3
          try simp only [Act.put, List.setIfInBounds_toArray, List.set_cons_zero, List.set_cons_succ]
          repeat (first
              | (refine' hold_skip ?_ ?_ ?_
                 rotate_left 1
                 · simp only [List.getElem?_toArray, List.getElem?_cons_zero, List.getElem?_cons_succ]; exact rfl
                 · exact rfl
                 simp only [Act.put, List.setIfInBounds_toArray, List.set_cons_zero, List.set_cons_succ])
              | (refine' hold_want ?_ ?_ (fun J hJ => ?_)
                 rotate_left 1
                 · simp only [List.getElem?_toArray, List.getElem?_cons_zero, List.getElem?_cons_succ]; exact rfl
                 · exact rfl
                 first
                 | (refine quiet_load_cores _ rfl ⟨w.heap.size, 258, none⟩ _ rfl (fun w' ⟨L, hL⟩ => ((hL ▸ L.ok : Below wr.heap.size wr w').cell (p := ⟨w.heap.size, 258, none⟩) (show w.heap.size < wr.heap.size by have := HT.out.size; have := HBw.out.size; omega)).trans p258r) ?_; refine hJ _ ?_; clear hJ J; try simp only [Act.put, List.setIfInBounds_toArray, List.set_cons_zero, List.set_cons_succ])
                 | (refine quiet_load_rcore _ rfl cb (coff + 0) es0 rfl (fun w' ⟨L, hL⟩ => HE0.out _ (Hbc.out.trans ((hL ▸ L.ok : Below wr.heap.size wr w').mono Hbc.out.size))) ?_; refine hJ _ ?_; clear hJ J; try simp only [Act.put, List.setIfInBounds_toArray, List.set_cons_zero, List.set_cons_succ])
                 | (refine quiet_tail_str _ _ rfl t1 rfl rfl Hts.out ?_; refine hJ _ ?_; clear hJ J; try simp only [Act.put, List.setIfInBounds_toArray, List.set_cons_zero, List.set_cons_succ])
                 | (refine quiet_extract _ 0 rfl #[.agg #[.int .i64 kx, .int .u8 zx, .slice ax lenx capx], .string t3, .slice p3 n3 c3, .bool q0.isSome] _ rfl rfl ?_; refine hJ _ ?_; clear hJ J; try simp only [Act.put, List.setIfInBounds_toArray, List.set_cons_zero, List.set_cons_succ])
                 | (refine quiet_extract _ 1 rfl #[.agg #[.int .i64 kx, .int .u8 zx, .slice ax lenx capx], .string t3, .slice p3 n3 c3, .bool q0.isSome] _ rfl rfl ?_; refine hJ _ ?_; clear hJ J; try simp only [Act.put, List.setIfInBounds_toArray, List.set_cons_zero, List.set_cons_succ])
                 | (refine quiet_extract _ 2 rfl #[.agg #[.int .i64 kx, .int .u8 zx, .slice ax lenx capx], .string t3, .slice p3 n3 c3, .bool q0.isSome] _ rfl rfl ?_; refine hJ _ ?_; clear hJ J; try simp only [Act.put, List.setIfInBounds_toArray, List.set_cons_zero, List.set_cons_succ])
                 | (refine quiet_extract _ 3 rfl #[.agg #[.int .i64 kx, .int .u8 zx, .slice ax lenx capx], .string t3, .slice p3 n3 c3, .bool q0.isSome] _ rfl rfl ?_; refine hJ _ ?_; clear hJ J; try simp only [Act.put, List.setIfInBounds_toArray, List.set_cons_zero, List.set_cons_succ])
                 | (refine quiet_extract _ _ rfl _ _ rfl rfl ?_; refine hJ _ ?_; clear hJ J; try simp only [Act.put, List.setIfInBounds_toArray, List.set_cons_zero, List.set_cons_succ])
                 | (go_big_quiet_op; refine hJ _ ?_; clear hJ J; try simp only [Act.put, List.setIfInBounds_toArray, List.set_cons_zero, List.set_cons_succ])))
          refine' hold_sole ?_ ?_ (fun J hJ => ?_)
          rotate_left 1
          · simp only [List.getElem?_toArray, List.getElem?_cons_zero, List.getElem?_cons_succ]; exact rfl
          · exact rfl
          refine wp_alloc_rvk rfl ?_
          intro wa hza hba hsa
          have hBa : Below wr.heap.size wr wa := hB3.trans (hba.mono hB3.size)
          have hle : wr.heap.size ≤ w3.heap.size := hB3.size
          have hq3 := fun v b2 s2 e => off_alloc (hr3 v b2 s2 e) hba
          refine hJ _ _ hBa ?_
          clear hJ J hba hsa
          try simp only [Act.put, List.setIfInBounds_toArray, List.set_cons_zero, List.set_cons_succ]
          refine' hold_sole ?_ ?_ (fun J hJ => ?_)
          rotate_left 1
          · simp only [List.getElem?_toArray, List.getElem?_cons_zero, List.getElem?_cons_succ]; exact rfl
          · exact rfl
          refine wp_store_rvk _ _ rfl w3.heap.size _ #[.int .i64 kx, .int .u8 zx, .slice ax lenx capx] rfl rfl hza rfl rfl (by simp [Value.oneCell']) ?_
          intro w4 hn4 ho4
          have hB4 : Below wr.heap.size wr w4 := ho4.below hBa hle
          have hr4 := fun v b2 s2 e => off_store (hq3 v b2 s2 e) ho4
          refine hJ _ _ hB4 ?_
          clear hJ J
          have H3 := Lib.hid (fun v b2 s2 e => (hq v b2 s2 e).2)
          have H4 := Lib.hid (And.intro hB4 hr4)
          have Hx4 := Lib.hid (rval3_in (cs := [.int .i64 kx, .int .u8 zx, .slice ax lenx capx]) hn4 rfl)
          clear hq hn4 ho4 hB4 hr4 hq3 
          try simp only [Act.put]
          repeat (first
              | (refine' hold_skip ?_ ?_ ?_
                 rotate_left 1
                 · simp only [List.getElem?_toArray, List.getElem?_cons_zero, List.getElem?_cons_succ]; exact rfl
                 · exact rfl
                 simp only [Act.put, List.setIfInBounds_toArray, List.set_cons_zero, List.set_cons_succ])
              | (refine' hold_want ?_ ?_ (fun J hJ => ?_)
                 rotate_left 1
                 · simp only [List.getElem?_toArray, List.getElem?_cons_zero, List.getElem?_cons_succ]; exact rfl
                 · exact rfl
                 first
                 | (refine quiet_load_cores _ rfl ⟨w.heap.size, 258, none⟩ _ rfl (fun w' ⟨L, hL⟩ => ((hL ▸ L.ok : Below wr.heap.size wr w').cell (p := ⟨w.heap.size, 258, none⟩) (show w.heap.size < wr.heap.size by have := HT.out.size; have := HBw.out.size; omega)).trans p258r) ?_; refine hJ _ ?_; clear hJ J; try simp only [Act.put, List.setIfInBounds_toArray, List.set_cons_zero, List.set_cons_succ])
                 | (refine quiet_load_rcore _ rfl cb (coff + 0) es0 rfl (fun w' ⟨L, hL⟩ => HE0.out _ (Hbc.out.trans ((hL ▸ L.ok : Below wr.heap.size wr w').mono Hbc.out.size))) ?_; refine hJ _ ?_; clear hJ J; try simp only [Act.put, List.setIfInBounds_toArray, List.set_cons_zero, List.set_cons_succ])
                 | (refine quiet_tail_str _ _ rfl t1 rfl rfl Hts.out ?_; refine hJ _ ?_; clear hJ J; try simp only [Act.put, List.setIfInBounds_toArray, List.set_cons_zero, List.set_cons_succ])
                 | (refine quiet_extract _ 0 rfl #[.agg #[.int .i64 kx, .int .u8 zx, .slice ax lenx capx], .string t3, .slice p3 n3 c3, .bool q0.isSome] _ rfl rfl ?_; refine hJ _ ?_; clear hJ J; try simp only [Act.put, List.setIfInBounds_toArray, List.set_cons_zero, List.set_cons_succ])
                 | (refine quiet_extract _ 1 rfl #[.agg #[.int .i64 kx, .int .u8 zx, .slice ax lenx capx], .string t3, .slice p3 n3 c3, .bool q0.isSome] _ rfl rfl ?_; refine hJ _ ?_; clear hJ J; try simp only [Act.put, List.setIfInBounds_toArray, List.set_cons_zero, List.set_cons_succ])
                 | (refine quiet_extract _ 2 rfl #[.agg #[.int .i64 kx, .int .u8 zx, .slice ax lenx capx], .string t3, .slice p3 n3 c3, .bool q0.isSome] _ rfl rfl ?_; refine hJ _ ?_; clear hJ J; try simp only [Act.put, List.setIfInBounds_toArray, List.set_cons_zero, List.set_cons_succ])
                 | (refine quiet_extract _ 3 rfl #[.agg #[.int .i64 kx, .int .u8 zx, .slice ax lenx capx], .string t3, .slice p3 n3 c3, .bool q0.isSome] _ rfl rfl ?_; refine hJ _ ?_; clear hJ J; try simp only [Act.put, List.setIfInBounds_toArray, List.set_cons_zero, List.set_cons_succ])
                 | (refine quiet_extract _ _ rfl _ _ rfl rfl ?_; refine hJ _ ?_; clear hJ J; try simp only [Act.put, List.setIfInBounds_toArray, List.set_cons_zero, List.set_cons_succ])
                 | (go_big_quiet_op; refine hJ _ ?_; clear hJ J; try simp only [Act.put, List.setIfInBounds_toArray, List.set_cons_zero, List.set_cons_succ])))
          refine hold_done ?_
          have HB4 := Lib.hid (HBw.out.trans (H4.out.1.mono HBw.out.size))
          have HG4 := Lib.hid (hG.out.later H4.out.1)
          clear hle
          cases q0 with
          | none =>
            have Hrn := Lib.hid (show r = none from Hstk.out)
            go_wp2_with (first
              | (refine wpList_store_rv rfl _ _ rfl (w.heap.size + 1) _ #[.int .i64 0, .int .u8 0, .slice none 0 0] rfl rfl (RBox.box HT.out HB4.out) rfl rfl (by simp [Value.oneCell']) ?_; intro w5 hn5 ho5; have H5 := Lib.hid (And.intro hn5 ho5); clear hn5 ho5)
              | fail)
            refine bodyPost_ret (results_got rfl _ _ (w.heap.size + 1) _ rfl H5.out.1 rfl) rfl ?_
            rw [Hrn.out]
            exact rgot_none HT.out HB4.out H5.out.2

          | some q =>
            obtain ⟨xv, b1, s2⟩ := q
            obtain ⟨rfl, h3, h4⟩ := H3.out _ _ _ rfl
            obtain rfl := h4.1.1
            have hfl := got_shorter c0 _ _ _ _ _ Hq0.out.symm
            have hstk : r = if s2.length = s1.length then none else starT (got c0) k (acc.map (·.1) ++ [xv]) (nats t3) s2 := Hstk.out
            have h3' := Lib.hid (And.intro h3 h4)
            clear h3 h4
            by_cases hsame : s2.length = s1.length
            · have hd : ((s2.length : Int) == (s1.length : Int)) = true := by simp [hsame]
              have Hrn := Lib.hid (show r = none by rw [hstk, if_pos hsame])
              clear hstk hfl
              go_wp2_with (first
                | (refine wpList_store_rv rfl _ _ rfl (w.heap.size + 1) _ #[.int .i64 0, .int .u8 0, .slice none 0 0] rfl rfl (RBox.box HT.out HB4.out) rfl rfl (by simp [Value.oneCell']) ?_; intro w5 hn5 ho5; have H5 := Lib.hid (And.intro hn5 ho5); clear hn5 ho5)
                | fail)
              refine bodyPost_ret (results_got rfl _ _ (w.heap.size + 1) _ rfl H5.out.1 rfl) rfl ?_
              rw [Hrn.out]
              exact rgot_none HT.out HB4.out H5.out.2

            · have hd : ((s2.length : Int) == (s1.length : Int)) = false := by simp; omega
              have Hrn := Lib.hid (show r = starT (got c0) k ((acc ++ [(xv, ([.int .i64 kx, .int .u8 zx, .slice ax lenx capx] : List Value))]).map (·.1)) (nats t3) s2 by rw [hstk, if_neg hsame, List.map_append]; rfl)
              have Hk3 := Lib.hid (show (nats t3).length < k by have h1 := hfl.1; have h2 := hk.out.1; rw [Hbs.out, List.length_cons] at h2; omega)
              have Hl3 := Lib.hid (show (acc ++ [(xv, ([.int .i64 kx, .int .u8 zx, .slice ax lenx capx] : List Value))]).length + s2.length ≤ s.length by have h1 := hfl.2; have h2 := hlen.out; rw [List.length_append, List.length_singleton]; omega)
              have hcg : w4.cell? ⟨W.heap.size, 2, none⟩ = some (.slice av m capv) := by rw [cells_at HG4.out.2.1]; rfl
              clear hstk hfl hsame
              go_wp2_with (first
                | (refine wpList_load_refval rfl _ rfl w3.heap.size 0 _ rfl Hx4.out ?_)
                | (refine wpList_build_rv1 rfl _ rfl [.int .i64 kx, .int .u8 zx, .slice ax lenx capx] rfl rfl ?_; intro w6 hn6 hb6 hs6; have H6 := Lib.hid (And.intro hn6 hb6); have Hown6 := Lib.hid (show w6.ownsRow W2.heap.size 47 3 (.slice av m capv) m (acc.flatMap (·.2)) from by have h := (HG4.out.later hb6).2.2.1; rw [← HN.out] at h; exact h); clear hn6 hb6 hs6)
                | (at_builtin; refine wpList_append_rv rfl _ _ rfl W2.heap.size (.slice av m capv) m (acc.flatMap (·.2)) rfl Hown6.out w4.heap.size [.int .i64 kx, .int .u8 zx, .slice ax lenx capx] rfl H6.out.1 rfl (by simp [Value.oneCell']) (by omega) (by have := HG4.out.2.2.2.size; have := H6.out.2.size; omega) ?_; intro v' w7 hown7 hgr7 hf7; refine Hid.out ?_)
                | fail)
              refine Lib.hid ?_
              have hG6 := HG4.out.later H6.out.2
              have hg2 : W.heap.size < W2.heap.size := by have := H2.out.2.1; omega
              have hv6 : ∀ q, (Value.slice av m capv).ownBlock = some q → q < wr.heap.size := fun q e => (hG.out.2.2.1.lt q e).2
              have hbx7 : RBox w7 W.heap.size #[.int .i64 6, .int .u8 0, .slice av m capv] := (hgr7.block _ hG6.2.1.lt (fun e => by have := (hG6.2.2.1.lt _ e.symm).1; omega)).trans hG6.2.1
              have hcx : w7.cell? ⟨W.heap.size, 2, none⟩ = some (.slice av m capv) := by rw [cells_at hbx7]; rfl
              have hfx := rbox_free hbx7 2
              have hmore := RGrow.more hG6 hg2 hG.out.2.2.2.size (refIn_below (H4.out.2 _ _ _ rfl) H6.out.2) hv6 (by rw [← HN.out]; exact hown7) hgr7 hf7
              obtain ⟨a', cap', rfl⟩ := owns_form hown7
              have Hmore := Lib.hid hmore
              clear hG6 hg2 hv6 hbx7 hmore hown7 hgr7 hf7
              go_wp2_with fail
              go_roundg k
              case measure => omega
              case rel => exact ⟨_, acc ++ [(xv, [.int .i64 kx, .int .u8 zx, .slice ax lenx capx])], t3, s2, p3, c3, rfl, rfl, Lib.hid ⟨Hk3.out, h3'.out.1⟩, Hl3, Hrn, Lib.hid Hmore.out, Lib.hid h3'.out.2⟩


        · refine' hold_step ?_ ?_ (fun J hJ => ?_)
          rotate_left 1
          · simp only [List.getElem?_toArray, List.getElem?_cons_zero, List.getElem?_cons_succ]; exact rfl
          · exact rfl
          refine wp_alloc_rvk rfl ?_
          intro wa hza hba hsa
          have hBa : Below wr.heap.size wr wa := hBd.trans (hba.mono hBd.size)
          have hle : wr.heap.size ≤ wd.heap.size := hBd.size
          refine hJ _ _ hBa ?_
          clear hJ J hba hsa
          try simp only [Act.put, List.setIfInBounds_toArray, List.set_cons_zero, List.set_cons_succ]
          refine' hold_sole ?_ ?_ (fun J hJ => ?_)
          rotate_left 1
          · simp only [List.getElem?_toArray, List.getElem?_cons_zero, List.getElem?_cons_succ]; exact rfl
          · exact rfl
          go_simp
          refine (Hcl.out _ hBa).mono ?_
          rintro e w3 ⟨kx, zx, ax, lenx, capx, t3, p3, n3, c3, rfl, hb3, hq⟩
          have hB3 : Below wr.heap.size wr w3 := hBa.trans (hb3.mono hBa.size)
          have hz3 := hza.below hb3 hza.lt
          have hq3 := fun v b2 s2 e => off_call (B := wr.heap.size) (b := wd.heap.size) (hq v b2 s2 e).1 hBa.size hza.lt
          refine hJ _ _ hB3 ?_
          clear hJ J hb3
          try simp only [Act.put, List.setIfInBounds_toArray, List.set_cons_zero, List.set_cons_succ]
          repeat (first
              | (refine' hold_skip ?_ ?_ ?_
                 rotate_left 1
                 · simp only [List.getElem?_toArray, List.getElem?_cons_zero, List.getElem?_cons_succ]; exact rfl
                 · exact rfl
                 simp only [Act.put, List.setIfInBounds_toArray, List.set_cons_zero, List.set_cons_succ])
              | (refine' hold_want ?_ ?_ (fun J hJ => ?_)
                 rotate_left 1
                 · simp only [List.getElem?_toArray, List.getElem?_cons_zero, List.getElem?_cons_succ]; exact rfl
                 · exact rfl
                 first
                 | (refine quiet_load_cores _ rfl ⟨w.heap.size, 258, none⟩ _ rfl (fun w' ⟨L, hL⟩ => ((hL ▸ L.ok : Below wr.heap.size wr w').cell (p := ⟨w.heap.size, 258, none⟩) (show w.heap.size < wr.heap.size by have := HT.out.size; have := HBw.out.size; omega)).trans p258r) ?_; refine hJ _ ?_; clear hJ J; try simp only [Act.put, List.setIfInBounds_toArray, List.set_cons_zero, List.set_cons_succ])
                 | (refine quiet_load_rcore _ rfl cb (coff + 0) es0 rfl (fun w' ⟨L, hL⟩ => HE0.out _ (Hbc.out.trans ((hL ▸ L.ok : Below wr.heap.size wr w').mono Hbc.out.size))) ?_; refine hJ _ ?_; clear hJ J; try simp only [Act.put, List.setIfInBounds_toArray, List.set_cons_zero, List.set_cons_succ])
                 | (refine quiet_tail_str _ _ rfl t1 rfl rfl Hts.out ?_; refine hJ _ ?_; clear hJ J; try simp only [Act.put, List.setIfInBounds_toArray, List.set_cons_zero, List.set_cons_succ])
                 | (refine quiet_extract _ 0 rfl #[.agg #[.int .i64 kx, .int .u8 zx, .slice ax lenx capx], .string t3, .slice p3 n3 c3, .bool q0.isSome] _ rfl rfl ?_; refine hJ _ ?_; clear hJ J; try simp only [Act.put, List.setIfInBounds_toArray, List.set_cons_zero, List.set_cons_succ])
                 | (refine quiet_extract _ 1 rfl #[.agg #[.int .i64 kx, .int .u8 zx, .slice ax lenx capx], .string t3, .slice p3 n3 c3, .bool q0.isSome] _ rfl rfl ?_; refine hJ _ ?_; clear hJ J; try simp only [Act.put, List.setIfInBounds_toArray, List.set_cons_zero, List.set_cons_succ])
                 | (refine quiet_extract _ 2 rfl #[.agg #[.int .i64 kx, .int .u8 zx, .slice ax lenx capx], .string t3, .slice p3 n3 c3, .bool q0.isSome] _ rfl rfl ?_; refine hJ _ ?_; clear hJ J; try simp only [Act.put, List.setIfInBounds_toArray, List.set_cons_zero, List.set_cons_succ])
                 | (refine quiet_extract _ 3 rfl #[.agg #[.int .i64 kx, .int .u8 zx, .slice ax lenx capx], .string t3, .slice p3 n3 c3, .bool q0.isSome] _ rfl rfl ?_; refine hJ _ ?_; clear hJ J; try simp only [Act.put, List.setIfInBounds_toArray, List.set_cons_zero, List.set_cons_succ])
                 | (refine quiet_extract _ _ rfl _ _ rfl rfl ?_; refine hJ _ ?_; clear hJ J; try simp only [Act.put, List.setIfInBounds_toArray, List.set_cons_zero, List.set_cons_succ])
                 | (go_big_quiet_op; refine hJ _ ?_; clear hJ J; try simp only [Act.put, List.setIfInBounds_toArray, List.set_cons_zero, List.set_cons_succ])))
          refine' hold_sole ?_ ?_ (fun J hJ => ?_)
          rotate_left 1
          · simp only [List.getElem?_toArray, List.getElem?_cons_zero, List.getElem?_cons_succ]; exact rfl
          · exact rfl
          refine wp_store_rvk _ _ rfl wd.heap.size _ #[.int .i64 kx, .int .u8 zx, .slice ax lenx capx] rfl rfl hz3 rfl rfl (by simp [Value.oneCell']) ?_
          intro w4 hn4 ho4
          have hB4 : Below wr.heap.size wr w4 := ho4.below hB3 hle
          have hr4 := fun v b2 s2 e => off_store (hq3 v b2 s2 e) ho4
          refine hJ _ _ hB4 ?_
          clear hJ J
          have H3 := Lib.hid (fun v b2 s2 e => (hq v b2 s2 e).2)
          have H4 := Lib.hid (And.intro hB4 hr4)
          have Hx4 := Lib.hid (rval3_in (cs := [.int .i64 kx, .int .u8 zx, .slice ax lenx capx]) hn4 rfl)
          clear hq hn4 ho4 hB4 hr4 hq3 
          try simp only [Act.put]
          repeat (first
              | (refine' hold_skip ?_ ?_ ?_
                 rotate_left 1
                 · simp only [List.getElem?_toArray, List.getElem?_cons_zero, List.getElem?_cons_succ]; exact rfl
                 · exact rfl
                 simp only [Act.put, List.setIfInBounds_toArray, List.set_cons_zero, List.set_cons_succ])
              | (refine' hold_want ?_ ?_ (fun J hJ => ?_)
                 rotate_left 1
                 · simp only [List.getElem?_toArray, List.getElem?_cons_zero, List.getElem?_cons_succ]; exact rfl
                 · exact rfl
                 first
                 | (refine quiet_load_cores _ rfl ⟨w.heap.size, 258, none⟩ _ rfl (fun w' ⟨L, hL⟩ => ((hL ▸ L.ok : Below wr.heap.size wr w').cell (p := ⟨w.heap.size, 258, none⟩) (show w.heap.size < wr.heap.size by have := HT.out.size; have := HBw.out.size; omega)).trans p258r) ?_; refine hJ _ ?_; clear hJ J; try simp only [Act.put, List.setIfInBounds_toArray, List.set_cons_zero, List.set_cons_succ])
                 | (refine quiet_load_rcore _ rfl cb (coff + 0) es0 rfl (fun w' ⟨L, hL⟩ => HE0.out _ (Hbc.out.trans ((hL ▸ L.ok : Below wr.heap.size wr w').mono Hbc.out.size))) ?_; refine hJ _ ?_; clear hJ J; try simp only [Act.put, List.setIfInBounds_toArray, List.set_cons_zero, List.set_cons_succ])
                 | (refine quiet_tail_str _ _ rfl t1 rfl rfl Hts.out ?_; refine hJ _ ?_; clear hJ J; try simp only [Act.put, List.setIfInBounds_toArray, List.set_cons_zero, List.set_cons_succ])
                 | (refine quiet_extract _ 0 rfl #[.agg #[.int .i64 kx, .int .u8 zx, .slice ax lenx capx], .string t3, .slice p3 n3 c3, .bool q0.isSome] _ rfl rfl ?_; refine hJ _ ?_; clear hJ J; try simp only [Act.put, List.setIfInBounds_toArray, List.set_cons_zero, List.set_cons_succ])
                 | (refine quiet_extract _ 1 rfl #[.agg #[.int .i64 kx, .int .u8 zx, .slice ax lenx capx], .string t3, .slice p3 n3 c3, .bool q0.isSome] _ rfl rfl ?_; refine hJ _ ?_; clear hJ J; try simp only [Act.put, List.setIfInBounds_toArray, List.set_cons_zero, List.set_cons_succ])
                 | (refine quiet_extract _ 2 rfl #[.agg #[.int .i64 kx, .int .u8 zx, .slice ax lenx capx], .string t3, .slice p3 n3 c3, .bool q0.isSome] _ rfl rfl ?_; refine hJ _ ?_; clear hJ J; try simp only [Act.put, List.setIfInBounds_toArray, List.set_cons_zero, List.set_cons_succ])
                 | (refine quiet_extract _ 3 rfl #[.agg #[.int .i64 kx, .int .u8 zx, .slice ax lenx capx], .string t3, .slice p3 n3 c3, .bool q0.isSome] _ rfl rfl ?_; refine hJ _ ?_; clear hJ J; try simp only [Act.put, List.setIfInBounds_toArray, List.set_cons_zero, List.set_cons_succ])
                 | (refine quiet_extract _ _ rfl _ _ rfl rfl ?_; refine hJ _ ?_; clear hJ J; try simp only [Act.put, List.setIfInBounds_toArray, List.set_cons_zero, List.set_cons_succ])
                 | (go_big_quiet_op; refine hJ _ ?_; clear hJ J; try simp only [Act.put, List.setIfInBounds_toArray, List.set_cons_zero, List.set_cons_succ])))
          refine hold_done ?_
          have HB4 := Lib.hid (HBw.out.trans (H4.out.1.mono HBw.out.size))
          have HG4 := Lib.hid (hG.out.later H4.out.1)
          clear hle
          cases q0 with
          | none =>
            have Hrn := Lib.hid (show r = none from Hstk.out)
            go_wp2_with (first
              | (refine wpList_store_rv rfl _ _ rfl (w.heap.size + 1) _ #[.int .i64 0, .int .u8 0, .slice none 0 0] rfl rfl (RBox.box HT.out HB4.out) rfl rfl (by simp [Value.oneCell']) ?_; intro w5 hn5 ho5; have H5 := Lib.hid (And.intro hn5 ho5); clear hn5 ho5)
              | fail)
            refine bodyPost_ret (results_got rfl _ _ (w.heap.size + 1) _ rfl H5.out.1 rfl) rfl ?_
            rw [Hrn.out]
            exact rgot_none HT.out HB4.out H5.out.2

          | some q =>
            obtain ⟨xv, b1, s2⟩ := q
            obtain ⟨rfl, h3, h4⟩ := H3.out _ _ _ rfl
            obtain rfl := h4.1.1
            have hfl := got_shorter c0 _ _ _ _ _ Hq0.out.symm
            have hstk : r = if s2.length = s1.length then none else starT (got c0) k (acc.map (·.1) ++ [xv]) (nats t3) s2 := Hstk.out
            have h3' := Lib.hid (And.intro h3 h4)
            clear h3 h4
            by_cases hsame : s2.length = s1.length
            · have hd : ((s2.length : Int) == (s1.length : Int)) = true := by simp [hsame]
              have Hrn := Lib.hid (show r = none by rw [hstk, if_pos hsame])
              clear hstk hfl
              go_wp2_with (first
                | (refine wpList_store_rv rfl _ _ rfl (w.heap.size + 1) _ #[.int .i64 0, .int .u8 0, .slice none 0 0] rfl rfl (RBox.box HT.out HB4.out) rfl rfl (by simp [Value.oneCell']) ?_; intro w5 hn5 ho5; have H5 := Lib.hid (And.intro hn5 ho5); clear hn5 ho5)
                | fail)
              refine bodyPost_ret (results_got rfl _ _ (w.heap.size + 1) _ rfl H5.out.1 rfl) rfl ?_
              rw [Hrn.out]
              exact rgot_none HT.out HB4.out H5.out.2

            · have hd : ((s2.length : Int) == (s1.length : Int)) = false := by simp; omega
              have Hrn := Lib.hid (show r = starT (got c0) k ((acc ++ [(xv, ([.int .i64 kx, .int .u8 zx, .slice ax lenx capx] : List Value))]).map (·.1)) (nats t3) s2 by rw [hstk, if_neg hsame, List.map_append]; rfl)
              have Hk3 := Lib.hid (show (nats t3).length < k by have h1 := hfl.1; have h2 := hk.out.1; rw [Hbs.out, List.length_cons] at h2; omega)
              have Hl3 := Lib.hid (show (acc ++ [(xv, ([.int .i64 kx, .int .u8 zx, .slice ax lenx capx] : List Value))]).length + s2.length ≤ s.length by have h1 := hfl.2; have h2 := hlen.out; rw [List.length_append, List.length_singleton]; omega)
              have hcg : w4.cell? ⟨W.heap.size, 2, none⟩ = some (.slice av m capv) := by rw [cells_at HG4.out.2.1]; rfl
              clear hstk hfl hsame
              go_wp2_with (first
                | (refine wpList_load_refval rfl _ rfl wd.heap.size 0 _ rfl Hx4.out ?_)
                | (refine wpList_build_rv1 rfl _ rfl [.int .i64 kx, .int .u8 zx, .slice ax lenx capx] rfl rfl ?_; intro w6 hn6 hb6 hs6; have H6 := Lib.hid (And.intro hn6 hb6); have Hown6 := Lib.hid (show w6.ownsRow W2.heap.size 47 3 (.slice av m capv) m (acc.flatMap (·.2)) from by have h := (HG4.out.later hb6).2.2.1; rw [← HN.out] at h; exact h); clear hn6 hb6 hs6)
                | (at_builtin; refine wpList_append_rv rfl _ _ rfl W2.heap.size (.slice av m capv) m (acc.flatMap (·.2)) rfl Hown6.out w4.heap.size [.int .i64 kx, .int .u8 zx, .slice ax lenx capx] rfl H6.out.1 rfl (by simp [Value.oneCell']) (by omega) (by have := HG4.out.2.2.2.size; have := H6.out.2.size; omega) ?_; intro v' w7 hown7 hgr7 hf7; refine Hid.out ?_)
                | fail)
              refine Lib.hid ?_
              have hG6 := HG4.out.later H6.out.2
              have hg2 : W.heap.size < W2.heap.size := by have := H2.out.2.1; omega
              have hv6 : ∀ q, (Value.slice av m capv).ownBlock = some q → q < wr.heap.size := fun q e => (hG.out.2.2.1.lt q e).2
              have hbx7 : RBox w7 W.heap.size #[.int .i64 6, .int .u8 0, .slice av m capv] := (hgr7.block _ hG6.2.1.lt (fun e => by have := (hG6.2.2.1.lt _ e.symm).1; omega)).trans hG6.2.1
              have hcx : w7.cell? ⟨W.heap.size, 2, none⟩ = some (.slice av m capv) := by rw [cells_at hbx7]; rfl
              have hfx := rbox_free hbx7 2
              have hmore := RGrow.more hG6 hg2 hG.out.2.2.2.size (refIn_below (H4.out.2 _ _ _ rfl) H6.out.2) hv6 (by rw [← HN.out]; exact hown7) hgr7 hf7
              obtain ⟨a', cap', rfl⟩ := owns_form hown7
              have Hmore := Lib.hid hmore
              clear hG6 hg2 hv6 hbx7 hmore hown7 hgr7 hf7
              go_wp2_with fail
              go_roundg k
              case measure => omega
              case rel => exact ⟨_, acc ++ [(xv, [.int .i64 kx, .int .u8 zx, .slice ax lenx capx])], t3, s2, p3, c3, rfl, rfl, Lib.hid ⟨Hk3.out, h3'.out.1⟩, Hl3, Hrn, Lib.hid Hmore.out, Lib.hid h3'.out.2⟩



      by_cases h49 : c = 49
      · obtain rfl := h49
        replace tf : ((t1[0]'ts0).toNat : Int) = 49 := tf
        have Hrn := Lib.hid (show r = some (.mk 6 0 (acc.map (·.1)), nats (t1.extract 1 t1.size), s1) by rw [hst.out, nats_tail, hbs, starT, if_neg (by decide), if_pos rfl]; rfl)
        have Hts := Lib.hid ts0
        clear hbs
        go_wp2_with fail
        obtain ⟨wd, hwd⟩ : ∃ wd, wd = wr.drew := ⟨_, rfl⟩
        have hBd : Below wr.heap.size wr wd := by rw [hwd]; exact (Below.refl _ _).drew
        have HBd := Lib.hid (HBw.out.trans (hBd.mono HBw.out.size))
        have hGd := hG.out.later hBd
        have Hbox := Lib.hid hGd.2.1
        have Hv := Lib.hid (refIn_from (hGd.made (by rw [← HN.out]; unfold maxLen; omega)) H2.out.1.size)
        have hS : Val3 wd W.heap.size 0 [.int .i64 6, .int .u8 0, .slice av m capv] := rval3_in hGd.2.1 rfl
        clear hGd hBd
        refine wp_region_hold (fun w' => Val3 w' W.heap.size 0 [.int .i64 6, .int .u8 0, .slice av m capv]) (.plain 0 (.plain 1 (.plain 2 (.plain 3 (.sole 4 (.plain 5 (.plain 6 (.plain 7 .done)))))))) (by rw [← hwd]; exact hS) (by kernel_rfl) (by kernel_rfl) (fun c a d v w h => by cases d <;> exact h) ?_
        rw [← hwd]
        clear hwd
        have hne : Nonempty (HeldW (fun w' => Val3 w' W.heap.size 0 [.int .i64 6, .int .u8 0, .slice av m capv])) := HeldW.nonempty hS
        repeat (first
            | (refine' hold_skip ?_ ?_ ?_
               rotate_left 1
               · simp only [List.getElem?_toArray, List.getElem?_cons_zero, List.getElem?_cons_succ]; exact rfl
               · exact rfl
               simp only [Act.put, List.setIfInBounds_toArray, List.set_cons_zero, List.set_cons_succ])
            | (refine' hold_want ?_ ?_ (fun J hJ => ?_)
               rotate_left 1
               · simp only [List.getElem?_toArray, List.getElem?_cons_zero, List.getElem?_cons_succ]; exact rfl
               · exact rfl
               first
               | (refine quiet_load_refval _ rfl W.heap.size 0 [.int .i64 6, .int .u8 0, .slice av m capv] rfl (fun w' ⟨L, hL⟩ => hL ▸ L.ok) ?_; refine hJ _ ?_; clear hJ J; try simp only [Act.put, List.setIfInBounds_toArray, List.set_cons_zero, List.set_cons_succ])
               | (refine quiet_tail_str _ _ rfl t1 rfl rfl Hts.out ?_; refine hJ _ ?_; clear hJ J; try simp only [Act.put, List.setIfInBounds_toArray, List.set_cons_zero, List.set_cons_succ])
               | (refine quiet_extract _ _ rfl _ _ rfl rfl ?_; refine hJ _ ?_; clear hJ J; try simp only [Act.put, List.setIfInBounds_toArray, List.set_cons_zero, List.set_cons_succ])
               | (go_big_quiet_op; refine hJ _ ?_; clear hJ J; try simp only [Act.put, List.setIfInBounds_toArray, List.set_cons_zero, List.set_cons_succ])))
        refine' hold_sole ?_ ?_ (fun J hJ => ?_)
        rotate_left 1
        · simp only [List.getElem?_toArray, List.getElem?_cons_zero, List.getElem?_cons_succ]; exact rfl
        · exact rfl
        refine wp_store_rvk _ _ rfl (w.heap.size + 1) _ #[.int .i64 6, .int .u8 0, .slice av m capv] rfl rfl (RBox.box HT.out HBd.out) rfl rfl (by simp [Value.oneCell']) ?_
        intro w5 hn5 ho5
        refine hJ _ _ (rval3_in ((ho5.block _ (by have := HT.out.size; omega)).trans Hbox.out) rfl) ?_
        clear hJ J
        have H5 := Lib.hid (And.intro hn5 ho5)
        clear hn5 ho5
        try simp only [Act.put]
        repeat (first
            | (refine' hold_skip ?_ ?_ ?_
               rotate_left 1
               · simp only [List.getElem?_toArray, List.getElem?_cons_zero, List.getElem?_cons_succ]; exact rfl
               · exact rfl
               simp only [Act.put, List.setIfInBounds_toArray, List.set_cons_zero, List.set_cons_succ])
            | (refine' hold_want ?_ ?_ (fun J hJ => ?_)
               rotate_left 1
               · simp only [List.getElem?_toArray, List.getElem?_cons_zero, List.getElem?_cons_succ]; exact rfl
               · exact rfl
               first
               | (refine quiet_load_refval _ rfl W.heap.size 0 [.int .i64 6, .int .u8 0, .slice av m capv] rfl (fun w' ⟨L, hL⟩ => hL ▸ L.ok) ?_; refine hJ _ ?_; clear hJ J; try simp only [Act.put, List.setIfInBounds_toArray, List.set_cons_zero, List.set_cons_succ])
               | (refine quiet_tail_str _ _ rfl t1 rfl rfl Hts.out ?_; refine hJ _ ?_; clear hJ J; try simp only [Act.put, List.setIfInBounds_toArray, List.set_cons_zero, List.set_cons_succ])
               | (refine quiet_extract _ _ rfl _ _ rfl rfl ?_; refine hJ _ ?_; clear hJ J; try simp only [Act.put, List.setIfInBounds_toArray, List.set_cons_zero, List.set_cons_succ])
               | (go_big_quiet_op; refine hJ _ ?_; clear hJ J; try simp only [Act.put, List.setIfInBounds_toArray, List.set_cons_zero, List.set_cons_succ])))
        refine hold_done ?_
        go_wp2_with fail
        refine bodyPost_ret (results_got rfl _ _ (w.heap.size + 1) _ rfl H5.out.1 rfl) rfl ?_
        rw [Hrn.out]
        exact rgot_some HT.out HBd.out H5.out.2 Hv.out (by have := hk.out.2; rw [ByteArray.size_extract]; omega) hB.out

      have n48 : ¬ (c : Int) = 48 := by omega
      have n49 : ¬ (c : Int) = 49 := by omega
      have d48 : ((c : Int) == 48) = false := by simpa using n48
      have d49 : ((c : Int) == 49) = false := by simpa using n49
      have b48 : ((c : Int) != 48) = true := by simpa using n48
      have b49 : ((c : Int) != 49) = true := by simpa using n49
      have Hrn := Lib.hid (show r = none by rw [hst.out, hbs, starT, if_neg h48, if_neg h49])
      clear hbs h48 h49
      go_wp2_with (first
        | (refine wpList_store_rv rfl _ _ rfl (w.heap.size + 1) _ #[.int .i64 0, .int .u8 0, .slice none 0 0] rfl rfl (RBox.box HT.out HBw.out) rfl rfl (by simp [Value.oneCell']) ?_; intro w5 hn5 ho5; have H5 := Lib.hid (And.intro hn5 ho5); clear hn5 ho5)
        | fail)
      refine bodyPost_ret (results_got rfl _ _ (w.heap.size + 1) _ rfl H5.out.1 rfl) rfl ?_
      rw [Hrn.out]
      exact rgot_none HT.out HBw.out H5.out.2


end V
end Go.Proofs.Ytklmomgccmekkaa
namespace Go.Proofs.Ytklmomgccmekkaa
namespace V
set_option maxRecDepth 100000
open Go.RowKit
theorem two_of : ∀ {l : List K.Cr}, l.length = 2 → ∃ a b, l = [a, b]
  | [a, b], _ => ⟨a, b, rfl⟩
  | [], h => by cases h
  | [_], h => by cases h
  | _ :: _ :: _ :: _, h => by simp at h
theorem refGot_any {Wc : World} : ∀ (m : Nat) (c : K.Cr), c.count ≤ m → c.form = true → ∀ cs, K.Cr.ref Wc c cs → RGotOk Wc (got c) cs
  | 0, c, h => absurd (K.Cr.count_pos c) (by omega)
  | m + 1, c, hm => by
    intro hf cs hat
    have ih := refGot_any (Wc := Wc) m
    obtain ⟨k, s, n, l⟩ := c
    rw [K.form_mk, Bool.and_eq_true] at hf
    obtain ⟨hp, hfs⟩ := hf
    rw [K.count_mk] at hm
    have hp2 : 0 ≤ k ∧ k ≤ 7 ∧ (l.length : Int) = K.partsC k := by
      rw [K.part_eq] at hp
      simp only [Bool.not_eq_true', Bool.or_eq_false_iff, decide_eq_false_iff_not, Bool.not_eq_false', beq_iff_eq] at hp
      obtain ⟨⟨⟨⟨⟨h1, h2⟩, h3⟩, _⟩, _⟩, _⟩ := hp
      exact ⟨by omega, by omega, h3⟩
    obtain ⟨h0, h7, hl⟩ := hp2
    have hk : k = 0 ∨ k = 1 ∨ k = 2 ∨ k = 3 ∨ k = 4 ∨ k = 5 ∨ k = 6 ∨ k = 7 := by omega
    rw [got_mk]
    rcases hk with rfl | rfl | rfl | rfl | rfl | rfl | rfl | rfl
    · obtain rfl : l = [] := List.length_eq_zero_iff.1 (by have h9 : K.partsC 0 = 0 := (by decide); omega)
      exact rg_0 s n cs hat
    · obtain rfl : l = [] := List.length_eq_zero_iff.1 (by have h9 : K.partsC 1 = 0 := (by decide); omega)
      exact rg_1 s n cs hat
    · obtain rfl : l = [] := List.length_eq_zero_iff.1 (by have h9 : K.partsC 2 = 0 := (by decide); omega)
      exact rg_2 s n cs hat
    · obtain ⟨c0, c1, rfl⟩ := two_of (show l.length = 2 by have h9 : K.partsC 3 = 2 := (by decide); omega)
      rw [K.forms_cons, K.forms_cons, Bool.and_eq_true, Bool.and_eq_true] at hfs
      rw [K.counts_cons, K.counts_cons] at hm
      exact rg_3 s n c0 c1 cs hat (fun cs h => ih c0 (by omega) hfs.1 cs h) (fun cs h => ih c1 (by omega) hfs.2.1 cs h)
    · obtain ⟨c0, c1, rfl⟩ := two_of (show l.length = 2 by have h9 : K.partsC 4 = 2 := (by decide); omega)
      rw [K.forms_cons, K.forms_cons, Bool.and_eq_true, Bool.and_eq_true] at hfs
      rw [K.counts_cons, K.counts_cons] at hm
      exact rg_4 s n c0 c1 cs hat (fun cs h => ih c0 (by omega) hfs.1 cs h) (fun cs h => ih c1 (by omega) hfs.2.1 cs h)
    · obtain ⟨c0, rfl⟩ := List.length_eq_one_iff.1 (show l.length = 1 by have h9 : K.partsC 5 = 1 := (by decide); omega)
      rw [K.forms_cons, Bool.and_eq_true] at hfs
      rw [K.counts_cons] at hm
      exact rg_5 s n c0 cs hat (fun cs h => ih c0 (by omega) hfs.1 cs h)
    · obtain ⟨c0, rfl⟩ := List.length_eq_one_iff.1 (show l.length = 1 by have h9 : K.partsC 6 = 1 := (by decide); omega)
      rw [K.forms_cons, Bool.and_eq_true] at hfs
      rw [K.counts_cons] at hm
      exact rg_6 s n c0 cs hat (fun cs h => ih c0 (by omega) hfs.1 cs h)
    · obtain ⟨c0, rfl⟩ := List.length_eq_one_iff.1 (show l.length = 1 by have h9 : K.partsC 7 = 1 := (by decide); omega)
      rw [K.forms_cons, Bool.and_eq_true] at hfs
      rw [K.counts_cons] at hm
      exact rg_7 s n c0 cs hat (fun cs h => ih c0 (by omega) hfs.1 cs h)
def RGetPost (w : World) (q : Vl × Int) (e : Ending) (w' : World) : Prop :=
  ∃ (k : Int) (z : Nat) (a : Option Addr) (len cap : Nat), e = .returned (.tuple #[.agg #[.int .i64 k, .int .u8 z, .slice a len cap], .int .i64 q.2]) ∧ RefIn (fromV w.heap.size) w' q.1 [.int .i64 k, .int .u8 z, .slice a len cap] ∧ Below w.heap.size w w'
theorem rget_end {w W wr w' : World} {cs : List Value} {b : Int} (hT : Twain w W cs) (hb : Below W.heap.size W wr) (ho : Only (w.heap.size + 1) wr w') : RGetPost w (v0, b) (.returned (.tuple #[.agg #[.int .i64 0, .int .u8 0, .slice none 0 0], .int .i64 b])) w' :=
  ⟨0, 0, none, 0, 0, rfl, refIn_plain _ _ rfl (by decide), ho.below (hT.bel.trans (hb.mono hT.bel.size)) (by omega)⟩
theorem results_rget {fn : Func} {p u : Tmp} (h : fn.results = #[.cell p 47, .tmp u]) (tmps : Array Value) (w : World) (b : Nat) (cs : Array Value) (hp : tmps.getD p undef = .pointer (some ⟨b, 0, none⟩)) (h0 : RBox w b cs) (hc : cs.size = 3) :
    (results fn tmps).run Try.prog w = .ok (.tuple #[.agg cs, tmps.getD u undef]) w := by
  have hp' : tmps[p]?.getD undef = .pointer (some ⟨b, 0, none⟩) := by simpa [Array.getD_eq_getD_getElem?] using hp
  simp [results, h, hp', asAddr, run_loadVar_row w b _ _ cs _ _ h0 Try.underlying47 rfl (infoRefVal' hc)]
set_option maxHeartbeats 8000000 in
theorem refGet_any {c : K.Cr} {cs : List Value} {w : World} {t : ByteArray} {p : Option Addr} {n cap : Nat} {s : List Nat} (hat : K.Cr.ref w c cs) (hs : BytesAt w p n cap s) (ht : t.size ≤ 9223372036854775807) :
    Calls Try.prog 22 #[.agg cs.toArray, .string t, .slice p n cap] w (RGetPost w (resG c (nats t) s)) := by
  obtain rfl := hs.1
  obtain ⟨W, hW⟩ : ∃ W, W = (w.alloc (.cells cs.toArray 54)).alloc (.cells #[.int .i64 0, .int .u8 0, .slice none 0 0] 47) := ⟨_, rfl⟩
  have hT : Twain w W cs := by rw [hW]; exact twain _ _
  have hgood := K.refGoodC_any c cs W (K.Cr.ref_below hT.bel hat)
  have hc := fun (w' : World) (h : Below W.heap.size W w') => (⟨K.refc_len hat, fun q _ => by rw [h.cell (p := ⟨w.heap.size, 0 + q, none⟩) (show w.heap.size < W.heap.size by have := hT.size; omega), Nat.zero_add, cells_at hT.core]; simp⟩ : K.RefC w' w.heap.size 0 cs)
  have hmx : (s.length : Int) ≤ 9223372036854775807 := by have := hs.2.2.1; unfold maxLen at this; omega
  obtain ⟨q, hq⟩ : ∃ q, q = resG c (nats t) s := ⟨_, rfl⟩
  rw [← hq]
  have HT := Lib.hid hT
  have Hc := Lib.hid hc
  have Hat := Lib.hid hat
  have Hby := Lib.hid hs
  have Ht := Lib.hid ht
  cases hg : K.goodC c with
  | false =>
    rw [hg] at hgood
    have Hgw := Lib.hid hgood
    have Hq := Lib.hid (show q = (v0, 1) by rw [hq]; unfold resG; rw [hg]; simp)
    clear hq hg hgood hs hat hc hT ht
    go_enter Try.func22, Try.ntmps22
    go_upto_region 1 with (first
      | (refine Go.Great.wpList_boxTo rfl _ _ rfl _ rfl w.heap.size rfl cs.toArray rfl ?_)
      | fail)
    rw [← hW]
    clear hW
    go_wp2_with (first
      | (refine K.wpList_load_refcore rfl _ rfl w.heap.size 0 cs rfl (Hc.out _ (Below.refl _ _)) ?_)
      | fail)
    refine Hgw.out.mono ?_
    clear Hgw
    rintro e w3 ⟨rfl, hb3⟩
    have Hb3 := Lib.hid hb3
    clear hb3
    go_wp2_with (first
      | (refine wpList_store_rv rfl _ _ rfl (w.heap.size + 1) _ #[.int .i64 0, .int .u8 0, .slice none 0 0] rfl rfl (RBox.box HT.out Hb3.out) rfl rfl (by simp [Value.oneCell']) ?_; intro w5 hn5 ho5; have H5 := Lib.hid (And.intro hn5 ho5); clear hn5 ho5)
      | fail)
    refine bodyPost_ret (results_rget rfl _ _ (w.heap.size + 1) _ rfl H5.out.1 rfl) rfl ?_
    rw [Hq.out]
    exact rget_end HT.out Hb3.out H5.out.2

  | true =>
    rw [hg] at hgood
    have Hgw := Lib.hid hgood
    have Hgc := Lib.hid hg
    have Hqr := Lib.hid hq
    clear hq hg hgood hs hat hc hT ht
    by_cases hn256 : 256 < s.length
    · have d1 : decide ((s.length : Int) > 256) = true := by simp; omega
      have d2 : decide ((256 : Int) < s.length) = true := by simp; omega
      have Hq := Lib.hid (show q = (v0, 1) by rw [Hqr.out]; unfold resG; rw [decide_eq_true hn256]; rfl)
      clear hn256
      go_enter Try.func22, Try.ntmps22
      go_upto_region 1 with (first
        | (refine Go.Great.wpList_boxTo rfl _ _ rfl _ rfl w.heap.size rfl cs.toArray rfl ?_)
        | fail)
      rw [← hW]
      clear hW
      go_wp2_with (first
        | (refine K.wpList_load_refcore rfl _ rfl w.heap.size 0 cs rfl (Hc.out _ (Below.refl _ _)) ?_)
        | fail)
      refine Hgw.out.mono ?_
      clear Hgw
      rintro e w3 ⟨rfl, hb3⟩
      have Hb3 := Lib.hid hb3
      clear hb3
      go_wp2_with (first
        | (refine wpList_store_rv rfl _ _ rfl (w.heap.size + 1) _ #[.int .i64 0, .int .u8 0, .slice none 0 0] rfl rfl (RBox.box HT.out Hb3.out) rfl rfl (by simp [Value.oneCell']) ?_; intro w5 hn5 ho5; have H5 := Lib.hid (And.intro hn5 ho5); clear hn5 ho5)
        | fail)
      refine bodyPost_ret (results_rget rfl _ _ (w.heap.size + 1) _ rfl H5.out.1 rfl) rfl ?_
      rw [Hq.out]
      exact rget_end HT.out Hb3.out H5.out.2

    · have d1 : decide ((s.length : Int) > 256) = false := by simp; omega
      have d2 : decide ((256 : Int) < s.length) = false := by simp; omega
      have Hq7 := Lib.hid (show q = match getV c (nats t) s with
        | none => (v0, 7)
        | some v => (v, 0) by rw [Hqr.out]; unfold resG; rw [decide_eq_false hn256, Hgc.out]; rfl)
      have H256 := Lib.hid (show s.length ≤ 256 by omega)
      clear hn256
      go_enter Try.func22, Try.ntmps22
      go_upto_region 1 with (first
        | (refine Go.Great.wpList_boxTo rfl _ _ rfl _ rfl w.heap.size rfl cs.toArray rfl ?_)
        | fail)
      rw [← hW]
      clear hW
      go_wp2_with (first
        | (refine K.wpList_load_refcore rfl _ rfl w.heap.size 0 cs rfl (Hc.out _ (Below.refl _ _)) ?_)
        | fail)
      refine Hgw.out.mono ?_
      clear Hgw
      rintro e w3 ⟨rfl, hb3⟩
      have Hb3 := Lib.hid hb3
      clear hb3
      obtain ⟨r, hr⟩ : ∃ r, r = got c (nats t) s := ⟨_, rfl⟩
      have hw3 : Below w.heap.size w w3 := HT.out.bel.trans (Hb3.out.mono HT.out.bel.size)
      have hcall := refGot_any (Wc := w3) c.count c (Nat.le_refl _) (by have h := Hgc.out; unfold K.goodC at h; rw [Bool.and_eq_true] at h; exact h.2) cs (K.Cr.ref_below hw3 Hat.out) t s p cap w3 (Below.refl _ _) Ht.out ⟨bytes_keep Hby.out hw3, H256.out⟩
      have hq7 := Hq7.out
      unfold getV at hq7
      rw [← hr] at hcall hq7
      have Hcall := Lib.hid hcall
      have Hq8 := Lib.hid hq7
      clear hr hw3 hcall hq7
      go_wp2_with (first
        | (refine K.wpList_load_refcore rfl _ rfl w.heap.size 0 cs rfl (Hc.out _ Hb3.out) ?_)
        | fail)
      refine Hcall.out.mono ?_
      clear Hcall
      rintro e w6 ⟨kx, zx, ax, lenx, capx, t6, p6, n6, c6, rfl, hb6, hp6⟩
      obtain ⟨w7, hw7⟩ : ∃ w7, w7 = w6.alloc (.cells #[.int .i64 kx, .int .u8 zx, .slice ax lenx capx] 47) := ⟨_, rfl⟩
      have hal7 : Below w6.heap.size w6 w7 := by rw [hw7]; exact _root_.Go.Proofs.Ytklmomgccmekkaa.K.alloc_below _ _
      have hb7 : Below W.heap.size W w7 := (Hb3.out.trans (hb6.mono Hb3.out.size)).trans (hal7.mono (by have := Hb3.out.size; have := hb6.size; omega))
      have Hx7 := Lib.hid (rval3_in (cs := [.int .i64 kx, .int .u8 zx, .slice ax lenx capx]) (show RBox w7 w6.heap.size #[.int .i64 kx, .int .u8 zx, .slice ax lenx capx] by rw [hw7]; exact rbox_start w6 _) rfl)
      have hq7 := fun v b2 s2 e => refIn_below (hp6 v b2 s2 e).1 hal7
      have Hb7 := Lib.hid hb7
      have H6 := Lib.hid (And.intro hp6 hq7)
      clear hb6 hp6 hal7 hb7 hq7
      go_upto_region 4 with fail
      rw [← hw7]
      clear hw7
      cases r with
      | none =>
        have Hq := Lib.hid (show q = (v0, 7) from Hq8.out)
        go_wp2_with (first
          | (refine wpList_store_rv rfl _ _ rfl (w.heap.size + 1) _ #[.int .i64 0, .int .u8 0, .slice none 0 0] rfl rfl (RBox.box HT.out Hb7.out) rfl rfl (by simp [Value.oneCell']) ?_; intro w5 hn5 ho5; have H5 := Lib.hid (And.intro hn5 ho5); clear hn5 ho5)
          | fail)
        refine bodyPost_ret (results_rget rfl _ _ (w.heap.size + 1) _ rfl H5.out.1 rfl) rfl ?_
        rw [Hq.out]
        exact rget_end HT.out Hb7.out H5.out.2

      | some r =>
        obtain ⟨vx, b2, s2⟩ := r
        obtain ⟨_, rfl, ht6, hs6⟩ := H6.out.1 _ _ _ rfl
        obtain rfl := hs6.1.1
        have hm6 : (s2.length : Int) ≤ 9223372036854775807 := by have := hs6.2; omega
        have hq9 : q = match (some (vx, nats t6, s2) : Option (Vl × List Nat × List Nat)) with
          | some (v, [], []) => (v, 0)
          | _ => (v0, 7) := by
          rw [Hq8.out]
          cases nats t6 <;> cases s2 <;> rfl
        have Hq9 := Lib.hid hq9
        clear ht6 hs6 hq9
        by_cases h0 : t6.size = 0
        · have e1 : decide ((t6.size : Int) > 0) = false := by simp [h0]
          have e2 : decide ((0 : Int) < t6.size) = false := by simp [h0]
          have e3 : decide (0 < t6.size) = false := by simp [h0]
          have hn6 : nats t6 = [] := List.length_eq_zero_iff.1 (by rw [nats_length]; exact h0)
          cases s2 with
          | nil =>
            have Hq := Lib.hid (show q = (vx, 0) by rw [Hq9.out, hn6])
            clear hn6 h0
            go_wp2_with (first
              | (refine wpList_load_refval rfl _ rfl w6.heap.size 0 _ rfl Hx7.out ?_)
              | (refine wpList_store_rv rfl _ _ rfl (w.heap.size + 1) _ #[.int .i64 kx, .int .u8 zx, .slice ax lenx capx] rfl rfl (RBox.box HT.out Hb7.out) rfl rfl (by simp [Value.oneCell']) ?_; intro w5 hn5 ho5; have H5 := Lib.hid (And.intro hn5 ho5); clear hn5 ho5)
              | fail)
            refine bodyPost_ret (results_rget rfl _ _ (w.heap.size + 1) _ rfl H5.out.1 rfl) rfl ?_
            rw [Hq.out]
            refine ⟨kx, zx, ax, lenx, capx, rfl, refIn_from (refIn_only (H6.out.2 _ _ _ rfl) H5.out.2 (by have := HT.out.size; have := Hb3.out.size; omega)) (by have := HT.out.size; have := Hb3.out.size; omega), H5.out.2.below (HT.out.bel.trans (Hb7.out.mono HT.out.bel.size)) (by omega)⟩

          | cons b s2 =>
            have Hq := Lib.hid (show q = (v0, 7) by rw [Hq9.out, hn6])
            have f1 : decide (((b :: s2).length : Int) > 0) = true := decide_eq_true (by simp only [List.length_cons]; omega)
            have f2 : decide ((0 : Int) < ((b :: s2).length : Int)) = true := decide_eq_true (by simp only [List.length_cons]; omega)
            have f3 : decide (0 < (b :: s2).length) = true := by simp
            clear hn6 h0
            generalize hl6 : (b :: s2).length = l6 at *
            go_wp2_with (first
              | (refine wpList_store_rv rfl _ _ rfl (w.heap.size + 1) _ #[.int .i64 0, .int .u8 0, .slice none 0 0] rfl rfl (RBox.box HT.out Hb7.out) rfl rfl (by simp [Value.oneCell']) ?_; intro w5 hn5 ho5; have H5 := Lib.hid (And.intro hn5 ho5); clear hn5 ho5)
              | fail)
            refine bodyPost_ret (results_rget rfl _ _ (w.heap.size + 1) _ rfl H5.out.1 rfl) rfl ?_
            rw [Hq.out]
            exact rget_end HT.out Hb7.out H5.out.2


        · have e1 : decide ((t6.size : Int) > 0) = true := by simp; omega
          have e2 : decide ((0 : Int) < t6.size) = true := by simp; omega
          have e3 : decide (0 < t6.size) = true := by simp; omega
          have Hq := Lib.hid (show q = (v0, 7) by
            have e2 : nats t6 ≠ [] := fun e => h0 (by rw [← nats_length, e]; rfl)
            obtain ⟨b, s', e3⟩ := List.exists_cons_of_ne_nil e2
            rw [Hq9.out, e3])
          clear h0
          go_wp2_with (first
            | (refine wpList_store_rv rfl _ _ rfl (w.heap.size + 1) _ #[.int .i64 0, .int .u8 0, .slice none 0 0] rfl rfl (RBox.box HT.out Hb7.out) rfl rfl (by simp [Value.oneCell']) ?_; intro w5 hn5 ho5; have H5 := Lib.hid (And.intro hn5 ho5); clear hn5 ho5)
            | fail)
          refine bodyPost_ret (results_rget rfl _ _ (w.heap.size + 1) _ rfl H5.out.1 rfl) rfl ?_
          rw [Hq.out]
          exact rget_end HT.out Hb7.out H5.out.2


end V
end Go.Proofs.Ytklmomgccmekkaa
