/- RefCore, RefCoreForm, RefCoreGood, RefCoreOf, as one. -/
import Derived.Test.YtonhmjfopidacaaDoorRefSmall
import Derived.Test.YtonhmjfopidacaaDoorCoreKit
import Derived.Test.YtonhmjfopidacaaDoorCoreGood
import Derived.Great.Ranges
import Derived.Deep.CutBlock
import Derived.Deep.DeepCutAuto
import Derived.BigQuiet
import Derived.Test.YtonhmjfopidacaaDoorBlockMem
import Derived.Test.YtonhmjfopidacaaDoorFree
import Derived.Maps.AppendAt
namespace Go.Proofs.YtonhmjfopidacaaDoor.K
set_option maxRecDepth 100000
open Go.RowKit
/-- the cells of a node of the document's own -/
def rcCells (k : Int) (s : BitVec 256) (n : Int) (v : Value) : List Value := .int .i64 k :: ((bc s.getLsbD).toList ++ [.int .i64 n, v])
theorem rcCells_length (k : Int) (s : BitVec 256) (n : Int) (v : Value) : (rcCells k s n v).length = 259 := by
  unfold rcCells
  rw [List.length_cons, List.length_append, Array.length_toList, bc_size]
  rfl
mutual
/-- a node of the document's own: the same node -/
def Cr.ref (w : World) : Cr → List Value → Prop
  | .mk k s n l, cs => fits64 k ∧ fits64 n ∧ ∃ (a : Option Addr) (cap : Nat),
      cs = rcCells k s n (.slice a l.length cap) ∧ l.length ≤ maxLen ∧
      (l.length = 0 ∨ ∃ b off, a = some ⟨b, off, none⟩ ∧ l.length ≤ cap ∧ b < w.heap.size ∧ coresRef w l b off)
def coresRef (w : World) : List Cr → Nat → Nat → Prop
  | [], _, _ => True
  | x :: l, b, off => (∃ cs : List Value, cs.length = 259 ∧ (∀ q, q < 259 → w.cell? ⟨b, off + q, none⟩ = cs[q]?) ∧ Cr.ref w x cs) ∧ coresRef w l b (off + 259)
end
theorem refc_mk (w : World) (k : Int) (s : BitVec 256) (n : Int) (l : List Cr) (cs : List Value) : Cr.ref w (.mk k s n l) cs = (fits64 k ∧ fits64 n ∧ ∃ (a : Option Addr) (cap : Nat),
      cs = rcCells k s n (.slice a l.length cap) ∧ l.length ≤ maxLen ∧
      (l.length = 0 ∨ ∃ b off, a = some ⟨b, off, none⟩ ∧ l.length ≤ cap ∧ b < w.heap.size ∧ coresRef w l b off)) := by rw [Cr.ref]
theorem coresRef_cons (w : World) (x : Cr) (l : List Cr) (b off : Nat) : coresRef w (x :: l) b off = ((∃ cs : List Value, cs.length = 259 ∧ (∀ q, q < 259 → w.cell? ⟨b, off + q, none⟩ = cs[q]?) ∧ Cr.ref w x cs) ∧ coresRef w l b (off + 259)) := by rw [coresRef]
theorem coresRef_nil (w : World) (b off : Nat) : coresRef w [] b off = True := by rw [coresRef]
theorem refc_len {w : World} {x : Cr} {cs : List Value} (h : Cr.ref w x cs) : cs.length = 259 := by
  cases x with
  | mk k s n l =>
    rw [refc_mk] at h
    obtain ⟨_, _, _, _, rfl, _⟩ := h
    exact rcCells_length ..
mutual
/-- what is there in one world is there in the other: so is a node -/
theorem Cr.ref_same {w w' : World} (h : ∀ p v, w.cell? p = some v → w'.cell? p = some v) (hs : w.heap.size ≤ w'.heap.size) : ∀ (x : Cr) (cs : List Value), Cr.ref w x cs → Cr.ref w' x cs
  | .mk k s n l, cs, ha => by
    rw [refc_mk] at ha ⊢
    obtain ⟨h1, h4, a, cap, h5, h6, h7⟩ := ha
    refine ⟨h1, h4, a, cap, h5, h6, ?_⟩
    rcases h7 with h7 | ⟨b, off, e1, e2, e3, e4⟩
    · exact .inl h7
    · exact .inr ⟨b, off, e1, e2, Nat.lt_of_lt_of_le e3 hs, coresRef_same h hs l b off e4⟩
theorem coresRef_same {w w' : World} (h : ∀ p v, w.cell? p = some v → w'.cell? p = some v) (hs : w.heap.size ≤ w'.heap.size) : ∀ (l : List Cr) (b off : Nat), coresRef w l b off → coresRef w' l b off
  | [], b, off, _ => by rw [coresRef_nil]; trivial
  | x :: l, b, off, ha => by
    rw [coresRef_cons] at ha ⊢
    obtain ⟨⟨cs, h1, h2, h3⟩, h4⟩ := ha
    refine ⟨⟨cs, h1, fun q hq => ?_, Cr.ref_same h hs x cs h3⟩, coresRef_same h hs l b (off + 259) h4⟩
    have h5 := h2 q hq
    rw [List.getElem?_eq_getElem (by omega)] at h5 ⊢
    exact h _ _ h5
end
theorem Cr.ref_below {w w' : World} (hb : Below w.heap.size w w') {x : Cr} {cs : List Value} (h : Cr.ref w x cs) : Cr.ref w' x cs :=
  Cr.ref_same (fun p v hp => by rw [hb.cell (p := p) (World.block_lt_of_cell? w p hp)]; exact hp) hb.size x cs h
theorem coresRef_get (w : World) (b : Nat) : ∀ (l : List Cr) (off : Nat), coresRef w l b off → ∀ j (hj : j < l.length), ∃ cs : List Value, cs.length = 259 ∧ (∀ q, q < 259 → w.cell? ⟨b, off + j * 259 + q, none⟩ = cs[q]?) ∧ Cr.ref w l[j] cs
  | [], _, _, j, hj => by simp at hj
  | x :: l, off, h, j, hj => by
    rw [coresRef_cons] at h
    cases j with
    | zero =>
      obtain ⟨cs, h1, h2, h3⟩ := h.1
      exact ⟨cs, h1, fun q hq => by rw [Nat.zero_mul, Nat.add_zero]; exact h2 q hq, h3⟩
    | succ j =>
      obtain ⟨cs, h1, h2, h3⟩ := coresRef_get w b l (off + 259) h.2 j (by simpa using hj)
      exact ⟨cs, h1, fun q hq => by rw [show off + (j + 1) * 259 + q = off + 259 + j * 259 + q from by omega]; exact h2 q hq, h3⟩
/-- 259 cells lie at b, off -/
def RefC (w : World) (b off : Nat) (cs : List Value) : Prop := cs.length = 259 ∧ ∀ q, q < 259 → w.cell? ⟨b, off + q, none⟩ = cs[q]?
theorem infoRefCore : (Tryd.prog.info? 57).map (·.size) = some 259 := by kernel_rfl
theorem loadRefCore {w : World} {b off : Nat} {cs : List Value} (h : RefC w b off cs) : (loadVar 57 ⟨b, off, none⟩).run Tryd.prog w = .ok (.agg cs.toArray) w := by
  have hl := run_loadCells_list (P := Tryd.prog) w ⟨b, off, none⟩ cs (fun j v hv => by
    have hj : j < 259 := by have := (List.getElem?_eq_some_iff.mp hv).1; rw [h.1] at this; exact this
    rw [addr_at, h.2 j hj]; exact hv)
  have hi := infoRefCore
  rw [h.1] at hl
  cases hq : Tryd.prog.info? 57 with
  | none => simp [hq] at hi
  | some i =>
    have hs : i.size = 259 := by simpa [hq] using hi
    have hagg : (isAgg 57).run Tryd.prog w = .ok true w := by
      unfold isAgg
      rw [Sem.run_bind, run_underlying Tryd.underlying57 w]
      rfl
    simp [loadVar, Sem.run_bind, hagg, sizeOf, typeInfo, hq, hs, hl]
theorem wpList_load_refcore {ops : Array Oper} {rest : List Oper} {o : Oper} {a : Act} {w : World} {Q : Exit → Act → World → Prop} (hgd : o.guard = none) (x : Operand) (ho : o.op = .load 57 x)
    (b off : Nat) (cs : List Value) (hx : a.eval x = .pointer (some ⟨b, off, none⟩)) (hc : RefC w b off cs)
    (h : wpList Tryd.prog ops Q rest (a.put o.dst (.agg cs.toArray)) w) : wpList Tryd.prog ops Q (o :: rest) a w :=
  wpList_plain hgd fun _ hK => by
    unfold Oper.wp execOp
    simp only [ho, hx, Instr.loadAt, Instr.sureAddr, Sem.run_bind, Sem.run_pure, Result.andThen_ok, loadRefCore hc]
    exact hK _ _ h
/-- the slice of nodes in a boxed node -/
theorem refc_slice {w : World} {b : Nat} {k n : Int} {s : BitVec 256} {v : Value} (h : w.heap[b]? = some (.cells (rcCells k s n v).toArray 57)) : w.cell? ⟨b, 258, none⟩ = some v := by
  rw [cells_at h]
  show (rcCells k s n v)[258]? = some v
  unfold rcCells
  rw [List.getElem?_cons_succ, List.getElem?_append_right (by rw [Array.length_toList, bc_size]; decide), Array.length_toList, bc_size]
  rfl
theorem countsC_take : ∀ (l : List Cr) (j : Nat) (hj : j < l.length), counts (l.take (j + 1)) = counts (l.take j) + l[j].count
  | x :: l, 0, _ => by
    rw [List.take_succ_cons, List.take_zero, List.take_zero]
    unfold counts
    unfold counts
    simp
  | x :: l, j + 1, hj => by
    rw [List.take_succ_cons, List.take_succ_cons]
    unfold counts
    rw [countsC_take l j (by simpa using hj)]
    simp only [List.getElem_cons_succ]
    omega
set_option maxHeartbeats 4000000 in
theorem refSizeC_any : ∀ (m : Nat) (x : Cr) (cs : List Value) (w : World) (most : Nat), x.count ≤ m → most ≤ 1000000 → Cr.ref w x cs →
    Calls Tryd.prog 73 #[.agg cs.toArray, .int .i64 most] w fun e w' => e = .returned (.int .i64 (min x.count most : Nat)) ∧ Below w.heap.size w w'
  | 0, x, _, _, _, h, _, _ => absurd (Cr.count_pos x) (by omega)
  | m + 1, x, cs, w, most, hm, hmost, hat => by
    obtain ⟨k, s, n, l⟩ := x
    rw [refc_mk] at hat
    obtain ⟨_, _, a, cap, rfl, hmax, hl⟩ := hat
    have hmx : (l.length : Int) ≤ 9223372036854775807 := by unfold maxLen at hmax; omega
    clear hmax
    rw [count_mk] at hm ⊢
    have hbx : ∀ v, (w.alloc (.cells (rcCells k s n v).toArray 57)).cell? ⟨w.heap.size, 258, none⟩ = some v := fun v => refc_slice (World.alloc_heap_new w _)
    have hb0 := hbx (.slice a l.length cap)
    generalize hC : rcCells k s n (.slice a l.length cap) = C at *
    have HC := Lib.hid hC
    have ih := refSizeC_any m
    have Hih := Lib.hid ih
    obtain ⟨N, hN⟩ : ∃ N, N = 1 + counts l := ⟨_, rfl⟩
    rw [← hN]
    have HN := Lib.hid hN
    have Hm := Lib.hid hm
    clear hC hbx ih hN hm
    go_enter Tryd.func73, Tryd.ntmps73
    go_wp2_with (first
      | (refine Go.Great.wpList_boxTo rfl _ _ rfl _ rfl w.heap.size rfl C.toArray rfl ?_)
      | fail)
    go_loopw [5, 6] (fun kk i wr => ∃ (j K : Nat), i = .int .i64 j ∧ kk = .int .i64 K ∧ j ≤ l.length ∧ Hid ((most = 0 ∧ j = 0 ∧ K = 1) ∨ (0 < most ∧ K = min (1 + counts (l.take j)) most)) ∧ Hid (Below (w.alloc (.cells C.toArray 57)).heap.size (w.alloc (.cells C.toArray 57)) wr)) (fun _ i _ => l.length - (intOf i).toNat)
    case atStart =>
      refine ⟨0, 1, rfl, rfl, Nat.zero_le _, ?_, Below.refl _ _⟩
      show _ ∨ _
      by_cases h0 : most = 0
      · exact .inl ⟨h0, rfl, rfl⟩
      · refine .inr ⟨by omega, ?_⟩
        rw [List.take_zero]
        unfold counts
        omega
    case round =>
      obtain ⟨j, K, rfl, rfl, hj, hK, hB⟩ := hrel
      have hc0 : wr.cell? ⟨w.heap.size, 258, none⟩ = some (.slice a l.length cap) := by rw [hB.out.cell (p := ⟨w.heap.size, 258, none⟩) (by simp)]; exact hb0
      have HBw : Hid (Below w.heap.size w wr) := ((Below.refl _ _).alloc (Nat.le_refl _) _).trans (hB.out.mono (by simp))
      by_cases hgo : j < l.length ∧ K ≤ most
      · have hjl := hgo.1
        have d1 : decide ((j : Int) < l.length) = true := by simp; omega
        have d2 : decide ((K : Int) ≤ most) = true := by simp; omega
        have hm0 : 0 < most := by rcases hK.out with ⟨h1, _, h3⟩ | ⟨h1, _⟩ <;> omega
        rcases hl with hl | ⟨b, off, rfl, hcap, hbw, hnodes⟩
        · omega
        · obtain ⟨cs, hcs, hcell, hchild⟩ := coresRef_get w b l off hnodes j hjl
          have h259 : RefC wr b (off + j * 259) cs := ⟨hcs, fun q hq => by rw [HBw.out.cell (p := ⟨b, off + j * 259 + q, none⟩) hbw]; exact hcell q hq⟩
          have hcnt : l[j].count ≤ m := by
            have h1 := counts_mem (List.getElem_mem hjl)
            have := Hm.out
            omega
          have hcall := Hih.out l[j] cs wr (most - K) hcnt (by omega) (Cr.ref_below HBw.out hchild)
          have hsub : (most : Int) - (K : Int) = ((most - K : Nat) : Int) := by omega
          have hstep := countsC_take l j hjl
          have Hstep := Lib.hid hstep
          generalize hv : min l[j].count (most - K) = v at hcall
          have hKb : K ≤ 1000001 := by rcases hK.out with ⟨_, _, h3⟩ | ⟨_, h2⟩ <;> omega
          have hvb : (K : Int) + (v : Int) ≤ 9223372036854775807 := by omega
          have hvc : (-9223372036854775808 : Int) ≤ (K : Int) + (v : Int) := by omega
          have Hv := Lib.hid hv
          clear hcell hchild hnodes hstep hv hcnt hcs
          go_wp2_with (first
            | (refine wpList_load_refcore rfl _ rfl b (off + j * 259) cs rfl h259 ?_)
            | (go_at_call 73; refine hcall.mono ?_; rintro e w3 ⟨rfl, hb3⟩; have Hb3 := Lib.hid hb3; clear hb3)
            | fail)
          go_roundw
          case rel =>
            refine ⟨j + 1, K + v, by go_num, by go_num, by omega, ?_, hB.out.trans (Hb3.out.mono hB.out.size)⟩
            refine .inr ⟨hm0, ?_⟩
            rw [Hstep.out, ← Hv.out]
            rcases hK.out with ⟨h1, _, _⟩ | ⟨_, h2⟩
            · omega
            · omega
          case measure => simp [intOf]; omega
      · have hfin : Hid ((most = 0 ∧ K = 1) ∨ (0 < most ∧ K = min N most)) := by
          show _ ∨ _
          rcases hK.out with ⟨h1, _, h3⟩ | ⟨h1, h2⟩
          · exact .inl ⟨h1, h3⟩
          · have : j = l.length := by omega
            rw [this, List.take_length] at h2
            exact .inr ⟨h1, by rw [h2, HN.out]⟩
        have hK1 : K ≤ 1000001 := by rcases hK.out with ⟨_, _, h3⟩ | ⟨_, h2⟩ <;> omega
        by_cases hjl : j < l.length
        · have d1 : decide ((j : Int) < l.length) = true := by simp; omega
          have e1 : decide (j < l.length) = true := decide_eq_true hjl
          have hKm : most < K := by omega
          have d2 : decide ((K : Int) ≤ most) = false := by simp; omega
          have e2 : decide (K ≤ most) = false := decide_eq_false (by omega)
          have e3 : decide (most < K) = true := decide_eq_true hKm
          have e4 : ¬ K ≤ most := by omega
          have d3 : decide ((most : Int) < K) = true := by simp; omega
          have hz : min N most = most := by rcases hfin.out with ⟨h1, h2⟩ | ⟨h1, h2⟩ <;> omega
          have Hz := Lib.hid hz
          clear hgo hz
          go_wp2_with fail
          go_ret
          exact ⟨by rw [Hz.out]; rfl, HBw.out⟩
        · have d1 : decide ((j : Int) < l.length) = false := by simp; omega
          have e1 : decide (j < l.length) = false := decide_eq_false hjl
          by_cases hKm : most < K
          · have d3 : decide ((most : Int) < K) = true := by simp; omega
            have e3 : decide (most < K) = true := decide_eq_true hKm
            have hz : min N most = most := by rcases hfin.out with ⟨h1, h2⟩ | ⟨h1, h2⟩ <;> omega
            have Hz := Lib.hid hz
            clear hgo hz
            go_wp2_with fail
            go_ret
            exact ⟨by rw [Hz.out]; rfl, HBw.out⟩
          · have d3 : decide ((most : Int) < K) = false := by simp; omega
            have e3 : decide (most < K) = false := decide_eq_false hKm
            have hz : min N most = K := by rcases hfin.out with ⟨h1, h2⟩ | ⟨h1, h2⟩ <;> omega
            have Hz := Lib.hid hz
            clear hgo hz
            go_wp2_with fail
            go_ret
            exact ⟨by rw [Hz.out]; rfl, HBw.out⟩
mutual
def Cr.deep : Cr → Nat
  | .mk _ _ _ l => 1 + deeps l
def deeps : List Cr → Nat
  | [] => 0
  | x :: l => max x.deep (deeps l)
end
theorem deep_mk (k : Int) (s : BitVec 256) (n : Int) (l : List Cr) : (Cr.mk k s n l).deep = 1 + deeps l := by rw [Cr.deep]
mutual
theorem Cr.deep_le : ∀ x : Cr, x.deep ≤ x.count
  | .mk k s n l => by
    rw [deep_mk, count_mk]
    have := deeps_le l
    omega
theorem deeps_le : ∀ l : List Cr, deeps l ≤ counts l
  | [] => by unfold deeps; omega
  | x :: l => by
    unfold deeps counts
    have h1 := Cr.deep_le x
    have h2 := deeps_le l
    omega
end
theorem deepsC_take : ∀ (l : List Cr) (j : Nat) (hj : j < l.length), deeps (l.take (j + 1)) = max (deeps (l.take j)) l[j].deep
  | x :: l, 0, _ => by
    rw [List.take_succ_cons, List.take_zero, List.take_zero]
    unfold deeps
    unfold deeps
    simp
  | x :: l, j + 1, hj => by
    rw [List.take_succ_cons, List.take_succ_cons]
    unfold deeps
    rw [deepsC_take l j (by simpa using hj)]
    simp only [List.getElem_cons_succ]
    omega
set_option maxHeartbeats 4000000 in
theorem refDeepC_any : ∀ (most : Nat) (x : Cr) (cs : List Value) (w : World), most ≤ 10000 → Cr.ref w x cs →
    Calls Tryd.prog 74 #[.agg cs.toArray, .int .i64 most] w fun e w' => e = .returned (.int .i64 (min x.deep (most + 1) : Nat)) ∧ Below w.heap.size w w'
  | 0, x, cs, w, _, hat => by
    obtain ⟨k, s, n, l⟩ := x
    rw [deep_mk, show min (1 + deeps l) (0 + 1) = 1 from by omega]
    clear hat
    go_enter Tryd.func74, Tryd.ntmps74
    go_wp2_with (first
      | (refine Go.Great.wpList_boxTo rfl _ _ rfl _ rfl w.heap.size rfl cs.toArray rfl ?_)
      | fail)
    go_ret
    exact ⟨rfl, (Below.refl _ _).alloc (Nat.le_refl _) _⟩
  | most + 1, x, cs, w, hmost, hat => by
    obtain ⟨k, s, n, l⟩ := x
    rw [refc_mk] at hat
    obtain ⟨_, _, a, cap, rfl, hmax, hl⟩ := hat
    have hmx : (l.length : Int) ≤ 9223372036854775807 := by unfold maxLen at hmax; omega
    clear hmax
    rw [deep_mk]
    have hbx : ∀ v, (w.alloc (.cells (rcCells k s n v).toArray 57)).cell? ⟨w.heap.size, 258, none⟩ = some v := fun v => refc_slice (World.alloc_heap_new w _)
    have hb0 := hbx (.slice a l.length cap)
    generalize hC : rcCells k s n (.slice a l.length cap) = C at *
    have ih := refDeepC_any most
    have Hih := Lib.hid ih
    have hdm : decide (((most + 1 : Nat) : Int) ≤ 0) = false := decide_eq_false (by omega)
    have hdm2 : ¬ ((most + 1 : Nat) : Int) ≤ 0 := by omega
    have hsub : ((most + 1 : Nat) : Int) - 1 = (most : Int) := by omega
    have hFb : ((most + 1 : Nat) : Int) ≤ 10001 := by omega
    obtain ⟨N, hN⟩ : ∃ N, N = min (1 + deeps l) (most + 1 + 1) := ⟨_, rfl⟩
    rw [← hN]
    have HN := Lib.hid hN
    generalize hF : ((most + 1 : Nat) : Int) = F at *
    have HF := Lib.hid hF
    clear hC hbx ih hN hF
    go_enter Tryd.func74, Tryd.ntmps74
    go_wp2_with (first
      | (refine Go.Great.wpList_boxTo rfl _ _ rfl _ rfl w.heap.size rfl C.toArray rfl ?_)
      | fail)
    go_loopw [5, 6] (fun kk i wr => ∃ (j K : Nat), i = .int .i64 j ∧ kk = .int .i64 K ∧ j ≤ l.length ∧ Hid (K = min (deeps (l.take j)) (most + 1)) ∧ Hid (Below (w.alloc (.cells C.toArray 57)).heap.size (w.alloc (.cells C.toArray 57)) wr)) (fun _ i _ => l.length - (intOf i).toNat)
    case atStart =>
      refine ⟨0, 0, rfl, rfl, Nat.zero_le _, ?_, Below.refl _ _⟩
      show _ = _
      rw [List.take_zero]
      unfold deeps
      omega
    case round =>
      obtain ⟨j, K, rfl, rfl, hj, hK, hB⟩ := hrel
      have hc0 : wr.cell? ⟨w.heap.size, 258, none⟩ = some (.slice a l.length cap) := by rw [hB.out.cell (p := ⟨w.heap.size, 258, none⟩) (by simp)]; exact hb0
      have HBw : Hid (Below w.heap.size w wr) := ((Below.refl _ _).alloc (Nat.le_refl _) _).trans (hB.out.mono (by simp))
      have hK1 : K ≤ 10001 := by have := hK.out; omega
      by_cases hjl : j < l.length
      · have d1 : decide ((j : Int) < l.length) = true := by simp; omega
        rcases hl with hl | ⟨b, off, rfl, hcap, hbw, hnodes⟩
        · omega
        · obtain ⟨cs, hcs, hcell, hchild⟩ := coresRef_get w b l off hnodes j hjl
          have h259 : RefC wr b (off + j * 259) cs := ⟨hcs, fun q hq => by rw [HBw.out.cell (p := ⟨b, off + j * 259 + q, none⟩) hbw]; exact hcell q hq⟩
          have hcall := Hih.out l[j] cs wr (by omega) (Cr.ref_below HBw.out hchild)
          have hstep := deepsC_take l j hjl
          have Hstep := Lib.hid hstep
          generalize hv : min l[j].deep (most + 1) = v at hcall
          have Hv := Lib.hid hv
          clear hcell hchild hnodes hstep hv hcs
          by_cases hlt : K < v
          · have d2 : decide ((K : Int) < v) = true := by simp; omega
            have e2 : decide (K < v) = true := decide_eq_true hlt
            go_wp2_with (first
              | (refine wpList_load_refcore rfl _ rfl b (off + j * 259) cs rfl h259 ?_)
              | (go_at_call 74; refine hcall.mono ?_; rintro e w3 ⟨rfl, hb3⟩; have Hb3 := Lib.hid hb3; clear hb3)
              | fail)
            go_roundw
            case rel =>
              refine ⟨j + 1, v, by go_num, rfl, by omega, ?_, hB.out.trans (Hb3.out.mono hB.out.size)⟩
              show _ = _
              rw [Hstep.out]
              have h1 := hK.out
              have h2 := Hv.out
              omega
            case measure => simp [intOf]; omega
          · have d2 : decide ((K : Int) < v) = false := by simp; omega
            have e2 : decide (K < v) = false := decide_eq_false hlt
            go_wp2_with (first
              | (refine wpList_load_refcore rfl _ rfl b (off + j * 259) cs rfl h259 ?_)
              | (go_at_call 74; refine hcall.mono ?_; rintro e w3 ⟨rfl, hb3⟩; have Hb3 := Lib.hid hb3; clear hb3)
              | fail)
            go_roundw
            case rel =>
              refine ⟨j + 1, K, by go_num, rfl, by omega, ?_, hB.out.trans (Hb3.out.mono hB.out.size)⟩
              show _ = _
              rw [Hstep.out]
              have h1 := hK.out
              have h2 := Hv.out
              omega
            case measure => simp [intOf]; omega
      · have d1 : decide ((j : Int) < l.length) = false := by simp; omega
        have e1 : decide (j < l.length) = false := decide_eq_false hjl
        have hz : N = K + 1 := by
          have h1 := hK.out
          have h2 := HN.out
          have : j = l.length := by omega
          rw [this, List.take_length] at h1
          omega
        have Hz := Lib.hid hz
        clear hz
        go_wp2_with fail
        go_ret
        exact ⟨by rw [Hz.out]; rfl, HBw.out⟩
end Go.Proofs.YtonhmjfopidacaaDoor.K
namespace Go.Proofs.YtonhmjfopidacaaDoor.K
set_option maxRecDepth 100000
open Go.RowKit
def partsC (k : Int) : Int := if k = 3 ∨ k = 4 then 2 else if k = 5 ∨ k = 6 ∨ k = 7 then 1 else 0
theorem refParts_any (k : Int) (w : World) : Calls Tryd.prog 80 #[.int .i64 k] w fun e w' => e = .returned (.int .i64 (partsC k)) ∧ Below w.heap.size w w' := by
  obtain ⟨P, hP⟩ : ∃ P, P = partsC k := ⟨_, rfl⟩
  rw [← hP]
  unfold partsC at hP
  by_cases h3 : k = 3
  · subst h3
    obtain rfl : P = 2 := hP
    go_enter Tryd.func80, Tryd.ntmps80
    go_wp2_with fail
    go_ret
    exact ⟨rfl, Below.refl _ _⟩
  by_cases h4 : k = 4
  · subst h4
    obtain rfl : P = 2 := hP
    go_enter Tryd.func80, Tryd.ntmps80
    go_wp2_with fail
    go_ret
    exact ⟨rfl, Below.refl _ _⟩
  by_cases h5 : k = 5
  · subst h5
    obtain rfl : P = 1 := hP
    go_enter Tryd.func80, Tryd.ntmps80
    go_wp2_with fail
    go_ret
    exact ⟨rfl, Below.refl _ _⟩
  by_cases h6 : k = 6
  · subst h6
    obtain rfl : P = 1 := hP
    go_enter Tryd.func80, Tryd.ntmps80
    go_wp2_with fail
    go_ret
    exact ⟨rfl, Below.refl _ _⟩
  by_cases h7 : k = 7
  · subst h7
    obtain rfl : P = 1 := hP
    go_enter Tryd.func80, Tryd.ntmps80
    go_wp2_with fail
    go_ret
    exact ⟨rfl, Below.refl _ _⟩
  obtain rfl : P = 0 := by rw [hP]; simp [h3, h4, h5, h6, h7]
  have b3 : (k == 3) = false := by simp [h3]
  have b4 : (k == 4) = false := by simp [h4]
  have b5 : (k == 5) = false := by simp [h5]
  have b6 : (k == 6) = false := by simp [h6]
  have b7 : (k == 7) = false := by simp [h7]
  clear hP h3 h4 h5 h6 h7
  go_enter Tryd.func80, Tryd.ntmps80
  go_wp2_with fail
  go_ret
  exact ⟨rfl, Below.refl _ _⟩
theorem part_eq (k : Int) (s : BitVec 256) (n : Int) (len : Nat) : partOk k s n len = !(decide (k < 0) || decide (7 < k) || !((len : Int) == partsC k) || (!(k == 2) && !decide (s = 0)) || (!(k == 6) && !(n == 0)) || ((k == 6) && (decide (n < 1) || decide (32 < n)))) := by
  by_cases h0 : k < 0
  · have : ¬ (k = 0 ∨ k = 1 ∨ k = 2) := by omega
    have h1 : ¬ (k = 3 ∨ k = 4) := by omega
    have h2 : ¬ (k = 5 ∨ k = 7) := by omega
    have h3 : ¬ k = 6 := by omega
    unfold partOk
    rw [if_neg this, if_neg h1, if_neg h2, if_neg h3]
    simp [h0]
  by_cases h7 : 7 < k
  · have : ¬ (k = 0 ∨ k = 1 ∨ k = 2) := by omega
    have h1 : ¬ (k = 3 ∨ k = 4) := by omega
    have h2 : ¬ (k = 5 ∨ k = 7) := by omega
    have h3 : ¬ k = 6 := by omega
    unfold partOk
    rw [if_neg this, if_neg h1, if_neg h2, if_neg h3]
    simp [h7]
  have hn1 : decide (1 ≤ n) = !decide (n < 1) := by by_cases h : n < 1 <;> simp [h] <;> omega
  have hn2 : decide (n ≤ 32) = !decide (32 < n) := by by_cases h : 32 < n <;> simp [h] <;> omega
  have e0 : ((len : Int) == 0) = decide (len = 0) := by rw [Bool.eq_iff_iff]; simp
  have e1 : ((len : Int) == 1) = decide (len = 1) := by rw [Bool.eq_iff_iff]; simp <;> omega
  have e2 : ((len : Int) == 2) = decide (len = 2) := by rw [Bool.eq_iff_iff]; simp <;> omega
  have hk : k = 0 ∨ k = 1 ∨ k = 2 ∨ k = 3 ∨ k = 4 ∨ k = 5 ∨ k = 6 ∨ k = 7 := by omega
  unfold partOk
  rw [hn1, hn2]
  have p0 : partsC 0 = 0 := by decide
  have p1 : partsC 1 = 0 := by decide
  have p2 : partsC 2 = 0 := by decide
  have p3 : partsC 3 = 2 := by decide
  have p4 : partsC 4 = 2 := by decide
  have p5 : partsC 5 = 1 := by decide
  have p6 : partsC 6 = 1 := by decide
  have p7 : partsC 7 = 1 := by decide
  rcases hk with rfl | rfl | rfl | rfl | rfl | rfl | rfl | rfl <;> simp only [p0, p1, p2, p3, p4, p5, p6, p7, e0, e1, e2] <;> generalize decide (len = 0) = a0 <;> generalize decide (len = 1) = a1 <;> generalize decide (len = 2) = a2 <;> generalize decide (s = 0) = z <;> generalize (n == 0) = b0 <;> generalize decide (n < 1) = b1 <;> generalize decide (32 < n) = b2 <;> revert a0 a1 a2 z b0 b1 b2 <;> decide
theorem eqlC_zero (s : BitVec 256) (w : World) : (Op.equalIn 10000 54 (BV s.getLsbD) (BV bNone)).run Tryd.prog w = .ok (decide (s = 0)) w := by
  rw [eql_ref]
  congr 1
  rw [Bool.eq_iff_iff, List.all_eq_true, decide_eq_true_eq]
  constructor
  · intro h
    apply BitVec.eq_of_getLsbD_eq
    intro c hc
    have := h c (List.mem_range.2 hc)
    simpa [bNone] using this
  · rintro rfl c _
    simp [bNone]
theorem quiet_load_refF {o : Oper} {a : Act} {C : World → Prop} {K : Act → Prop} (x : Operand) (ho : o.op = .load 54 x) (b off : Nat) (f : Nat → Bool) (hx : a.eval x = .pointer (some ⟨b, off, none⟩))
    (F : Array Value) (hF : F = bc f) (h : ∀ w, C w → Ref256 w b off f) (hK : K (a.put o.dst (.agg F))) : o.quiet Tryd.prog a C K := by
  subst hF; exact quiet_load_refAt x ho b off f hx h hK
theorem quiet_zero_refF {o : Oper} {a : Act} {C : World → Prop} {K : Act → Prop} (ho : o.op = .build 54 #[]) (F : Array Value) (hF : F = bc bNone) (hK : K (a.put o.dst (.agg F))) : o.quiet Tryd.prog a C K := by
  subst hF
  exact ⟨BV bNone, fun w _ => by
    unfold Oper.quietAt execOp
    simp only [ho, List.map_toArray, List.map_nil, Sem.run_bind, build_zero]
    exact ⟨rfl, rfl⟩, hK⟩
/-- the fields of a core in a box -/
structure CCells (w : World) (b : Nat) (k : Int) (s : BitVec 256) (n : Int) (v : Value) : Prop where
  c0 : w.cell? ⟨b, 0, none⟩ = some (.int .i64 k)
  set : Ref256 w b 1 s.getLsbD
  c257 : w.cell? ⟨b, 257, none⟩ = some (.int .i64 n)
  c258 : w.cell? ⟨b, 258, none⟩ = some v
theorem rc_get (k : Int) (s : BitVec 256) (n : Int) (v : Value) (q : Nat) (hq : q < 256) : (rcCells k s n v)[1 + q]? = some (.bool (s.getLsbD q)) := by
  unfold rcCells
  rw [Nat.add_comm, List.getElem?_cons_succ, List.getElem?_append_left (by rw [Array.length_toList, bc_size]; exact hq), Array.getElem?_toList, bc_get _ _ hq]
theorem rc_tail (k : Int) (s : BitVec 256) (n : Int) (v : Value) (q : Nat) : (rcCells k s n v)[257 + q]? = ([.int .i64 n, v] : List Value)[q]? := by
  unfold rcCells
  rw [show 257 + q = (256 + q) + 1 from by omega, List.getElem?_cons_succ, List.getElem?_append_right (by rw [Array.length_toList, bc_size]; omega), Array.length_toList, bc_size]
  congr 1
  omega
theorem ccells_box {w : World} {b : Nat} {k : Int} {s : BitVec 256} {n : Int} {v : Value} (h : w.heap[b]? = some (.cells (rcCells k s n v).toArray 57 (0, 0))) : CCells w b k s n v := by
  have e : ∀ q, w.cell? ⟨b, q, none⟩ = (rcCells k s n v)[q]? := fun q => by rw [cells_at h q]; simp
  exact ⟨by rw [e]; rfl, fun c hc => by rw [e]; exact rc_get k s n v c hc, by rw [e]; exact rc_tail k s n v 0, by rw [e]; exact rc_tail k s n v 1⟩
theorem CCells.later {w w' : World} {b : Nat} {k : Int} {s : BitVec 256} {n : Int} {v : Value} (h : CCells w b k s n v) (hb : Below w.heap.size w w') : CCells w' b k s n v := by
  have hlt : b < w.heap.size := World.block_lt_of_cell? w _ h.c0
  have e : ∀ q, w'.cell? ⟨b, q, none⟩ = w.cell? ⟨b, q, none⟩ := fun q => hb.cell (p := ⟨b, q, none⟩) hlt
  exact ⟨by rw [e, h.c0], fun c hc => by rw [e]; exact h.set c hc, by rw [e, h.c257], by rw [e, h.c258]⟩
set_option maxHeartbeats 16000000 in
theorem refFormedC_any : ∀ (m : Nat) (x : Cr) (cs : List Value) (w : World), x.count ≤ m → Cr.ref w x cs →
    Calls Tryd.prog 75 #[.agg cs.toArray] w fun e w' => e = .returned (.bool x.form) ∧ Below w.heap.size w w'
  | 0, x, _, _, h, _ => absurd (Cr.count_pos x) (by omega)
  | m + 1, x, cs, w, hm, hat => by
    obtain ⟨k, s, n, l⟩ := x
    rw [refc_mk] at hat
    obtain ⟨_, _, a, cap, rfl, hmax, hl⟩ := hat
    have hmx : (l.length : Int) ≤ 9223372036854775807 := by unfold maxLen at hmax; omega
    rw [count_mk] at hm
    obtain ⟨R, hR⟩ : ∃ R, R = (Cr.mk k s n l).form := ⟨_, rfl⟩
    rw [← hR]
    rw [form_mk] at hR
    have HR := Lib.hid hR
    have HL := Lib.hid hl
    have Hm := Lib.hid hm
    have Hih := Lib.hid (refFormedC_any m)
    obtain ⟨W, hW⟩ : ∃ W, W = w.alloc (.cells (rcCells k s n (.slice a l.length cap)).toArray 57) := ⟨_, rfl⟩
    have hbel : Below w.heap.size w W := by rw [hW]; exact (Below.refl _ _).alloc (Nat.le_refl _) _
    have hcc : CCells W w.heap.size k s n (.slice a l.length cap) := by rw [hW]; exact ccells_box (World.alloc_heap_new w _)
    have HCC := Lib.hid hcc
    have HBel := Lib.hid hbel
    generalize hC : rcCells k s n (.slice a l.length cap) = C at hW
    clear hC hR hl hm hbel hcc hmax
    go_enter Tryd.func75, Tryd.ntmps75
    go_upto_region 1 with (first
      | (refine Go.Great.wpList_boxTo rfl _ _ rfl _ rfl w.heap.size rfl C.toArray rfl ?_)
      | fail)
    rw [← hW]
    clear hW
    obtain ⟨z, hz⟩ : ∃ z, z = decide (s = 0) := ⟨_, rfl⟩
    have heq := eqlC_zero s
    rw [← hz] at heq
    have Hz := Lib.hid hz
    clear hz
    unfold BV at heq
    obtain ⟨F, hF⟩ : ∃ F, F = bc s.getLsbD := ⟨_, rfl⟩
    obtain ⟨Z0, hZ0⟩ : ∃ Z0, Z0 = bc bNone := ⟨_, rfl⟩
    rw [← hF, ← hZ0] at heq
    have HF := Lib.hid hF
    have HZ0 := Lib.hid hZ0
    clear hF hZ0
    go_cut [56] from 4 to 56 (fun v wx => v = .bool (!partOk k s n l.length) ∧ Below W.heap.size W wx)
    case first =>
      have c0 := fun L : Later W => (HCC.out.later L.ok).c0
      have c257 := fun L : Later W => (HCC.out.later L.ok).c257
      have c258 := fun L : Later W => (HCC.out.later L.ok).c258
      have hp := refParts_any k
      obtain ⟨PK, hPK⟩ : ∃ PK, PK = partsC k := ⟨_, rfl⟩
      rw [← hPK] at hp
      have Hparts := Lib.hid hp
      have HPK := Lib.hid hPK.symm
      have hne := Later.nonempty W
      clear hp hPK HR HL Hm Hih
      by_cases h1 : k < 0
      · have d1 : decide (k < 0) = true := decide_eq_true h1
        clear HBel
        try clear h0
        try clear h1
        try clear h2
        try clear h3
        try clear h4
        try clear h6
        try clear h8
        try clear h9
        refine wp_region_later (W0 := W) (Below.refl _ _) (by kernel_rfl) (by as_aux_lemma => kernel_rfl) ?_
        repeat (first
          | go_big_quiet_skip
          | (go_big_quiet_want; refine quiet_load_refF _ rfl w.heap.size 1 s.getLsbD rfl F HF.out (fun w' hw' => by obtain ⟨L, rfl⟩ := hw'; exact (HCC.out.later L.ok).set) ?_; go_big_quiet_on; simp only [Act.put, List.setIfInBounds_toArray, List.set_cons_zero, List.set_cons_succ])
          | (go_big_quiet_want; refine quiet_zero_refF rfl Z0 HZ0.out ?_; go_big_quiet_on; simp only [Act.put, List.setIfInBounds_toArray, List.set_cons_zero, List.set_cons_succ])
          | go_big_quiet_step (exact Later.calls (Hparts.out _)))
        refine wpQuiet_nil ?_
        intro w' hw'
        obtain ⟨L', rfl⟩ := hw'
        go_step
        go_step
        go_meet
        refine ⟨?_, L'.ok⟩
        rw [part_eq, HPK.out]
        simp only [d1]
        rfl
      · have d1 : decide (k < 0) = false := decide_eq_false h1
        by_cases h2 : 7 < k
        · have d2 : decide (7 < k) = true := decide_eq_true h2
          clear HBel
          try clear h0
          try clear h1
          try clear h2
          try clear h3
          try clear h4
          try clear h6
          try clear h8
          try clear h9
          refine wp_region_later (W0 := W) (Below.refl _ _) (by kernel_rfl) (by as_aux_lemma => kernel_rfl) ?_
          repeat (first
            | go_big_quiet_skip
            | (go_big_quiet_want; refine quiet_load_refF _ rfl w.heap.size 1 s.getLsbD rfl F HF.out (fun w' hw' => by obtain ⟨L, rfl⟩ := hw'; exact (HCC.out.later L.ok).set) ?_; go_big_quiet_on; simp only [Act.put, List.setIfInBounds_toArray, List.set_cons_zero, List.set_cons_succ])
            | (go_big_quiet_want; refine quiet_zero_refF rfl Z0 HZ0.out ?_; go_big_quiet_on; simp only [Act.put, List.setIfInBounds_toArray, List.set_cons_zero, List.set_cons_succ])
            | go_big_quiet_step (exact Later.calls (Hparts.out _)))
          refine wpQuiet_nil ?_
          intro w' hw'
          obtain ⟨L', rfl⟩ := hw'
          go_step
          go_step
          go_meet
          refine ⟨?_, L'.ok⟩
          rw [part_eq, HPK.out]
          simp only [d1, d2]
          rfl
        · have d2 : decide (7 < k) = false := decide_eq_false h2
          by_cases h3 : (l.length : Int) = PK
          · have d3 : ((l.length : Int) == PK) = true := by simp [h3]
            have d3' : ((l.length : Int) != PK) = false := by simp [h3]
            by_cases h4 : k = 2
            · have d4 : (k == 2) = true := by simp [h4]
              have d4' : (k != 2) = false := by simp [h4]
              by_cases h6 : k = 6
              · have d6 : (k == 6) = true := by simp [h6]
                have d6' : (k != 6) = false := by simp [h6]
                by_cases h8 : n < 1
                · have d8 : decide (n < 1) = true := decide_eq_true h8
                  clear HBel
                  try clear h0
                  try clear h1
                  try clear h2
                  try clear h3
                  try clear h4
                  try clear h6
                  try clear h8
                  try clear h9
                  refine wp_region_later (W0 := W) (Below.refl _ _) (by kernel_rfl) (by as_aux_lemma => kernel_rfl) ?_
                  repeat (first
                    | go_big_quiet_skip
                    | (go_big_quiet_want; refine quiet_load_refF _ rfl w.heap.size 1 s.getLsbD rfl F HF.out (fun w' hw' => by obtain ⟨L, rfl⟩ := hw'; exact (HCC.out.later L.ok).set) ?_; go_big_quiet_on; simp only [Act.put, List.setIfInBounds_toArray, List.set_cons_zero, List.set_cons_succ])
                    | (go_big_quiet_want; refine quiet_zero_refF rfl Z0 HZ0.out ?_; go_big_quiet_on; simp only [Act.put, List.setIfInBounds_toArray, List.set_cons_zero, List.set_cons_succ])
                    | go_big_quiet_step (exact Later.calls (Hparts.out _)))
                  refine wpQuiet_nil ?_
                  intro w' hw'
                  obtain ⟨L', rfl⟩ := hw'
                  go_step
                  go_step
                  go_meet
                  refine ⟨?_, L'.ok⟩
                  rw [part_eq, HPK.out]
                  simp only [d1, d2, d3, d4, d6, d8]
                  rfl
                · have d8 : decide (n < 1) = false := decide_eq_false h8
                  by_cases h9 : 32 < n
                  · have d9 : decide (32 < n) = true := decide_eq_true h9
                    clear HBel
                    try clear h0
                    try clear h1
                    try clear h2
                    try clear h3
                    try clear h4
                    try clear h6
                    try clear h8
                    try clear h9
                    refine wp_region_later (W0 := W) (Below.refl _ _) (by kernel_rfl) (by as_aux_lemma => kernel_rfl) ?_
                    repeat (first
                      | go_big_quiet_skip
                      | (go_big_quiet_want; refine quiet_load_refF _ rfl w.heap.size 1 s.getLsbD rfl F HF.out (fun w' hw' => by obtain ⟨L, rfl⟩ := hw'; exact (HCC.out.later L.ok).set) ?_; go_big_quiet_on; simp only [Act.put, List.setIfInBounds_toArray, List.set_cons_zero, List.set_cons_succ])
                      | (go_big_quiet_want; refine quiet_zero_refF rfl Z0 HZ0.out ?_; go_big_quiet_on; simp only [Act.put, List.setIfInBounds_toArray, List.set_cons_zero, List.set_cons_succ])
                      | go_big_quiet_step (exact Later.calls (Hparts.out _)))
                    refine wpQuiet_nil ?_
                    intro w' hw'
                    obtain ⟨L', rfl⟩ := hw'
                    go_step
                    go_step
                    go_meet
                    refine ⟨?_, L'.ok⟩
                    rw [part_eq, HPK.out]
                    simp only [d1, d2, d3, d4, d6, d8, d9]
                    rfl
                  · have d9 : decide (32 < n) = false := decide_eq_false h9
                    clear HBel
                    try clear h0
                    try clear h1
                    try clear h2
                    try clear h3
                    try clear h4
                    try clear h6
                    try clear h8
                    try clear h9
                    refine wp_region_later (W0 := W) (Below.refl _ _) (by kernel_rfl) (by as_aux_lemma => kernel_rfl) ?_
                    repeat (first
                      | go_big_quiet_skip
                      | (go_big_quiet_want; refine quiet_load_refF _ rfl w.heap.size 1 s.getLsbD rfl F HF.out (fun w' hw' => by obtain ⟨L, rfl⟩ := hw'; exact (HCC.out.later L.ok).set) ?_; go_big_quiet_on; simp only [Act.put, List.setIfInBounds_toArray, List.set_cons_zero, List.set_cons_succ])
                      | (go_big_quiet_want; refine quiet_zero_refF rfl Z0 HZ0.out ?_; go_big_quiet_on; simp only [Act.put, List.setIfInBounds_toArray, List.set_cons_zero, List.set_cons_succ])
                      | go_big_quiet_step (exact Later.calls (Hparts.out _)))
                    refine wpQuiet_nil ?_
                    intro w' hw'
                    obtain ⟨L', rfl⟩ := hw'
                    go_step
                    go_step
                    go_meet
                    refine ⟨?_, L'.ok⟩
                    rw [part_eq, HPK.out]
                    simp only [d1, d2, d3, d4, d6, d8, d9]
                    rfl
              · have d6 : (k == 6) = false := by simp [h6]
                have d6' : (k != 6) = true := by simp [h6]
                by_cases h0 : n = 0
                · have d0 : (n == 0) = true := by simp [h0]
                  have d0' : (n != 0) = false := by simp [h0]
                  clear HBel
                  try clear h0
                  try clear h1
                  try clear h2
                  try clear h3
                  try clear h4
                  try clear h6
                  try clear h8
                  try clear h9
                  refine wp_region_later (W0 := W) (Below.refl _ _) (by kernel_rfl) (by as_aux_lemma => kernel_rfl) ?_
                  repeat (first
                    | go_big_quiet_skip
                    | (go_big_quiet_want; refine quiet_load_refF _ rfl w.heap.size 1 s.getLsbD rfl F HF.out (fun w' hw' => by obtain ⟨L, rfl⟩ := hw'; exact (HCC.out.later L.ok).set) ?_; go_big_quiet_on; simp only [Act.put, List.setIfInBounds_toArray, List.set_cons_zero, List.set_cons_succ])
                    | (go_big_quiet_want; refine quiet_zero_refF rfl Z0 HZ0.out ?_; go_big_quiet_on; simp only [Act.put, List.setIfInBounds_toArray, List.set_cons_zero, List.set_cons_succ])
                    | go_big_quiet_step (exact Later.calls (Hparts.out _)))
                  refine wpQuiet_nil ?_
                  intro w' hw'
                  obtain ⟨L', rfl⟩ := hw'
                  go_step
                  go_step
                  go_meet
                  refine ⟨?_, L'.ok⟩
                  rw [part_eq, HPK.out]
                  simp only [d1, d2, d3, d4, d6, d0]
                  rfl
                · have d0 : (n == 0) = false := by simp [h0]
                  have d0' : (n != 0) = true := by simp [h0]
                  clear HBel
                  try clear h0
                  try clear h1
                  try clear h2
                  try clear h3
                  try clear h4
                  try clear h6
                  try clear h8
                  try clear h9
                  refine wp_region_later (W0 := W) (Below.refl _ _) (by kernel_rfl) (by as_aux_lemma => kernel_rfl) ?_
                  repeat (first
                    | go_big_quiet_skip
                    | (go_big_quiet_want; refine quiet_load_refF _ rfl w.heap.size 1 s.getLsbD rfl F HF.out (fun w' hw' => by obtain ⟨L, rfl⟩ := hw'; exact (HCC.out.later L.ok).set) ?_; go_big_quiet_on; simp only [Act.put, List.setIfInBounds_toArray, List.set_cons_zero, List.set_cons_succ])
                    | (go_big_quiet_want; refine quiet_zero_refF rfl Z0 HZ0.out ?_; go_big_quiet_on; simp only [Act.put, List.setIfInBounds_toArray, List.set_cons_zero, List.set_cons_succ])
                    | go_big_quiet_step (exact Later.calls (Hparts.out _)))
                  refine wpQuiet_nil ?_
                  intro w' hw'
                  obtain ⟨L', rfl⟩ := hw'
                  go_step
                  go_step
                  go_meet
                  refine ⟨?_, L'.ok⟩
                  rw [part_eq, HPK.out]
                  simp only [d1, d2, d3, d4, d6, d0]
                  rfl
            · have d4 : (k == 2) = false := by simp [h4]
              have d4' : (k != 2) = true := by simp [h4]
              cases z
              · have hs : decide (s = 0) = false := Hz.out.symm
                have Hs := Lib.hid hs
                clear hs
                clear HBel
                try clear h0
                try clear h1
                try clear h2
                try clear h3
                try clear h4
                try clear h6
                try clear h8
                try clear h9
                refine wp_region_later (W0 := W) (Below.refl _ _) (by kernel_rfl) (by as_aux_lemma => kernel_rfl) ?_
                repeat (first
                  | go_big_quiet_skip
                  | (go_big_quiet_want; refine quiet_load_refF _ rfl w.heap.size 1 s.getLsbD rfl F HF.out (fun w' hw' => by obtain ⟨L, rfl⟩ := hw'; exact (HCC.out.later L.ok).set) ?_; go_big_quiet_on; simp only [Act.put, List.setIfInBounds_toArray, List.set_cons_zero, List.set_cons_succ])
                  | (go_big_quiet_want; refine quiet_zero_refF rfl Z0 HZ0.out ?_; go_big_quiet_on; simp only [Act.put, List.setIfInBounds_toArray, List.set_cons_zero, List.set_cons_succ])
                  | go_big_quiet_step (exact Later.calls (Hparts.out _)))
                refine wpQuiet_nil ?_
                intro w' hw'
                obtain ⟨L', rfl⟩ := hw'
                go_step
                go_step
                go_meet
                refine ⟨?_, L'.ok⟩
                rw [part_eq, HPK.out]
                simp only [d1, d2, d3, d4, Hs.out]
                rfl
              · have hs : decide (s = 0) = true := Hz.out.symm
                have Hs := Lib.hid hs
                clear hs
                by_cases h6 : k = 6
                · have d6 : (k == 6) = true := by simp [h6]
                  have d6' : (k != 6) = false := by simp [h6]
                  by_cases h8 : n < 1
                  · have d8 : decide (n < 1) = true := decide_eq_true h8
                    clear HBel
                    try clear h0
                    try clear h1
                    try clear h2
                    try clear h3
                    try clear h4
                    try clear h6
                    try clear h8
                    try clear h9
                    refine wp_region_later (W0 := W) (Below.refl _ _) (by kernel_rfl) (by as_aux_lemma => kernel_rfl) ?_
                    repeat (first
                      | go_big_quiet_skip
                      | (go_big_quiet_want; refine quiet_load_refF _ rfl w.heap.size 1 s.getLsbD rfl F HF.out (fun w' hw' => by obtain ⟨L, rfl⟩ := hw'; exact (HCC.out.later L.ok).set) ?_; go_big_quiet_on; simp only [Act.put, List.setIfInBounds_toArray, List.set_cons_zero, List.set_cons_succ])
                      | (go_big_quiet_want; refine quiet_zero_refF rfl Z0 HZ0.out ?_; go_big_quiet_on; simp only [Act.put, List.setIfInBounds_toArray, List.set_cons_zero, List.set_cons_succ])
                      | go_big_quiet_step (exact Later.calls (Hparts.out _)))
                    refine wpQuiet_nil ?_
                    intro w' hw'
                    obtain ⟨L', rfl⟩ := hw'
                    go_step
                    go_step
                    go_meet
                    refine ⟨?_, L'.ok⟩
                    rw [part_eq, HPK.out]
                    simp only [d1, d2, d3, d4, Hs.out, d6, d8]
                    rfl
                  · have d8 : decide (n < 1) = false := decide_eq_false h8
                    by_cases h9 : 32 < n
                    · have d9 : decide (32 < n) = true := decide_eq_true h9
                      clear HBel
                      try clear h0
                      try clear h1
                      try clear h2
                      try clear h3
                      try clear h4
                      try clear h6
                      try clear h8
                      try clear h9
                      refine wp_region_later (W0 := W) (Below.refl _ _) (by kernel_rfl) (by as_aux_lemma => kernel_rfl) ?_
                      repeat (first
                        | go_big_quiet_skip
                        | (go_big_quiet_want; refine quiet_load_refF _ rfl w.heap.size 1 s.getLsbD rfl F HF.out (fun w' hw' => by obtain ⟨L, rfl⟩ := hw'; exact (HCC.out.later L.ok).set) ?_; go_big_quiet_on; simp only [Act.put, List.setIfInBounds_toArray, List.set_cons_zero, List.set_cons_succ])
                        | (go_big_quiet_want; refine quiet_zero_refF rfl Z0 HZ0.out ?_; go_big_quiet_on; simp only [Act.put, List.setIfInBounds_toArray, List.set_cons_zero, List.set_cons_succ])
                        | go_big_quiet_step (exact Later.calls (Hparts.out _)))
                      refine wpQuiet_nil ?_
                      intro w' hw'
                      obtain ⟨L', rfl⟩ := hw'
                      go_step
                      go_step
                      go_meet
                      refine ⟨?_, L'.ok⟩
                      rw [part_eq, HPK.out]
                      simp only [d1, d2, d3, d4, Hs.out, d6, d8, d9]
                      rfl
                    · have d9 : decide (32 < n) = false := decide_eq_false h9
                      clear HBel
                      try clear h0
                      try clear h1
                      try clear h2
                      try clear h3
                      try clear h4
                      try clear h6
                      try clear h8
                      try clear h9
                      refine wp_region_later (W0 := W) (Below.refl _ _) (by kernel_rfl) (by as_aux_lemma => kernel_rfl) ?_
                      repeat (first
                        | go_big_quiet_skip
                        | (go_big_quiet_want; refine quiet_load_refF _ rfl w.heap.size 1 s.getLsbD rfl F HF.out (fun w' hw' => by obtain ⟨L, rfl⟩ := hw'; exact (HCC.out.later L.ok).set) ?_; go_big_quiet_on; simp only [Act.put, List.setIfInBounds_toArray, List.set_cons_zero, List.set_cons_succ])
                        | (go_big_quiet_want; refine quiet_zero_refF rfl Z0 HZ0.out ?_; go_big_quiet_on; simp only [Act.put, List.setIfInBounds_toArray, List.set_cons_zero, List.set_cons_succ])
                        | go_big_quiet_step (exact Later.calls (Hparts.out _)))
                      refine wpQuiet_nil ?_
                      intro w' hw'
                      obtain ⟨L', rfl⟩ := hw'
                      go_step
                      go_step
                      go_meet
                      refine ⟨?_, L'.ok⟩
                      rw [part_eq, HPK.out]
                      simp only [d1, d2, d3, d4, Hs.out, d6, d8, d9]
                      rfl
                · have d6 : (k == 6) = false := by simp [h6]
                  have d6' : (k != 6) = true := by simp [h6]
                  by_cases h0 : n = 0
                  · have d0 : (n == 0) = true := by simp [h0]
                    have d0' : (n != 0) = false := by simp [h0]
                    clear HBel
                    try clear h0
                    try clear h1
                    try clear h2
                    try clear h3
                    try clear h4
                    try clear h6
                    try clear h8
                    try clear h9
                    refine wp_region_later (W0 := W) (Below.refl _ _) (by kernel_rfl) (by as_aux_lemma => kernel_rfl) ?_
                    repeat (first
                      | go_big_quiet_skip
                      | (go_big_quiet_want; refine quiet_load_refF _ rfl w.heap.size 1 s.getLsbD rfl F HF.out (fun w' hw' => by obtain ⟨L, rfl⟩ := hw'; exact (HCC.out.later L.ok).set) ?_; go_big_quiet_on; simp only [Act.put, List.setIfInBounds_toArray, List.set_cons_zero, List.set_cons_succ])
                      | (go_big_quiet_want; refine quiet_zero_refF rfl Z0 HZ0.out ?_; go_big_quiet_on; simp only [Act.put, List.setIfInBounds_toArray, List.set_cons_zero, List.set_cons_succ])
                      | go_big_quiet_step (exact Later.calls (Hparts.out _)))
                    refine wpQuiet_nil ?_
                    intro w' hw'
                    obtain ⟨L', rfl⟩ := hw'
                    go_step
                    go_step
                    go_meet
                    refine ⟨?_, L'.ok⟩
                    rw [part_eq, HPK.out]
                    simp only [d1, d2, d3, d4, Hs.out, d6, d0]
                    rfl
                  · have d0 : (n == 0) = false := by simp [h0]
                    have d0' : (n != 0) = true := by simp [h0]
                    clear HBel
                    try clear h0
                    try clear h1
                    try clear h2
                    try clear h3
                    try clear h4
                    try clear h6
                    try clear h8
                    try clear h9
                    refine wp_region_later (W0 := W) (Below.refl _ _) (by kernel_rfl) (by as_aux_lemma => kernel_rfl) ?_
                    repeat (first
                      | go_big_quiet_skip
                      | (go_big_quiet_want; refine quiet_load_refF _ rfl w.heap.size 1 s.getLsbD rfl F HF.out (fun w' hw' => by obtain ⟨L, rfl⟩ := hw'; exact (HCC.out.later L.ok).set) ?_; go_big_quiet_on; simp only [Act.put, List.setIfInBounds_toArray, List.set_cons_zero, List.set_cons_succ])
                      | (go_big_quiet_want; refine quiet_zero_refF rfl Z0 HZ0.out ?_; go_big_quiet_on; simp only [Act.put, List.setIfInBounds_toArray, List.set_cons_zero, List.set_cons_succ])
                      | go_big_quiet_step (exact Later.calls (Hparts.out _)))
                    refine wpQuiet_nil ?_
                    intro w' hw'
                    obtain ⟨L', rfl⟩ := hw'
                    go_step
                    go_step
                    go_meet
                    refine ⟨?_, L'.ok⟩
                    rw [part_eq, HPK.out]
                    simp only [d1, d2, d3, d4, Hs.out, d6, d0]
                    rfl
          · have d3 : ((l.length : Int) == PK) = false := by simp [h3]
            have d3' : ((l.length : Int) != PK) = true := by simp [h3]
            clear HBel
            try clear h0
            try clear h1
            try clear h2
            try clear h3
            try clear h4
            try clear h6
            try clear h8
            try clear h9
            refine wp_region_later (W0 := W) (Below.refl _ _) (by kernel_rfl) (by as_aux_lemma => kernel_rfl) ?_
            repeat (first
              | go_big_quiet_skip
              | (go_big_quiet_want; refine quiet_load_refF _ rfl w.heap.size 1 s.getLsbD rfl F HF.out (fun w' hw' => by obtain ⟨L, rfl⟩ := hw'; exact (HCC.out.later L.ok).set) ?_; go_big_quiet_on; simp only [Act.put, List.setIfInBounds_toArray, List.set_cons_zero, List.set_cons_succ])
              | (go_big_quiet_want; refine quiet_zero_refF rfl Z0 HZ0.out ?_; go_big_quiet_on; simp only [Act.put, List.setIfInBounds_toArray, List.set_cons_zero, List.set_cons_succ])
              | go_big_quiet_step (exact Later.calls (Hparts.out _)))
            refine wpQuiet_nil ?_
            intro w' hw'
            obtain ⟨L', rfl⟩ := hw'
            go_step
            go_step
            go_meet
            refine ⟨?_, L'.ok⟩
            rw [part_eq, HPK.out]
            simp only [d1, d2, d3]
            rfl
    case rest =>
      obtain ⟨rfl, hbc⟩ := hcut
      have HB := Lib.hid (HBel.out.trans (hbc.mono HBel.out.size))
      have HCCc := Lib.hid (HCC.out.later hbc)
      clear heq hbc
      obtain ⟨ok, hok⟩ : ∃ ok, ok = partOk k s n l.length := ⟨_, rfl⟩
      rw [← hok]
      have HRo := Lib.hid (show R = (ok && forms l) by rw [HR.out, hok])
      clear hok HR
      obtain ⟨V, rfl⟩ : ∃ V : World, V = wc := ⟨_, rfl⟩
      cases ok
      · go_wp2_with fail
        go_ret
        exact ⟨by rw [HRo.out]; rfl, HB.out⟩
      · go_wp2_with fail
        go_loopw [3] (fun i wr => ∃ j : Nat, i = .int .i64 j ∧ j ≤ l.length ∧ Hid (forms l = forms (l.drop j)) ∧ Hid (Below V.heap.size V wr)) (fun i _ => l.length - (intOf i).toNat)
        case atStart => exact ⟨0, rfl, Nat.zero_le _, rfl, Below.refl _ _⟩
        case round =>
          obtain ⟨j, rfl, hj, hf, hr⟩ := hrel
          have c258 := (HCCc.out.later hr.out).c258
          have hbw := HB.out.trans (hr.out.mono HB.out.size)
          have Hbw := Lib.hid hbw
          clear hbw
          by_cases hjl : j < l.length
          · have d1 : decide ((j : Int) < l.length) = true := by simp; omega
            have hx : ∃ b off cs cap', a = some ⟨b, off, none⟩ ∧ l.length ≤ cap' ∧ cap' = cap ∧ RefC wr b (off + j * 259) cs ∧ Cr.ref wr l[j] cs := by
              rcases HL.out with hl | ⟨b, off, rfl, hcap, hbw, hnodes⟩
              · omega
              · obtain ⟨cs, hcs, hcell, hchild⟩ := coresRef_get w b l off hnodes j hjl
                exact ⟨b, off, cs, cap, rfl, hcap, rfl, ⟨hcs, fun q hq => by rw [Hbw.out.cell (p := ⟨b, off + j * 259 + q, none⟩) hbw]; exact hcell q hq⟩, Cr.ref_below Hbw.out hchild⟩
            obtain ⟨b, off, cs, cap', rfl, hcap, rfl, h259, hchild⟩ := hx
            have hcnt : l[j].count ≤ m := by
              have h1 := counts_mem (List.getElem_mem hjl)
              have := Hm.out
              omega
            have hcall := Hih.out l[j] cs wr hcnt hchild
            have hstep : forms (l.drop j) = (l[j].form && forms (l.drop (j + 1))) := by rw [List.drop_eq_getElem_cons hjl, forms_cons]
            generalize hgf : l[j].form = fj at hcall hstep
            have Hstep := Lib.hid hstep
            clear hcnt hchild hstep hgf
            cases fj
            · go_wp2_with (first
                | (refine wpList_load_refcore rfl _ rfl b (off + j * 259) cs rfl h259 ?_)
                | (go_at_call 75; refine hcall.mono ?_; rintro e w3 ⟨rfl, hb3⟩; have Hb3 := Lib.hid hb3; clear hb3)
                | fail)
              go_ret
              exact ⟨by rw [HRo.out, hf.out, Hstep.out]; rfl, Hbw.out.trans (Hb3.out.mono Hbw.out.size)⟩
            · go_wp2_with (first
                | (refine wpList_load_refcore rfl _ rfl b (off + j * 259) cs rfl h259 ?_)
                | (go_at_call 75; refine hcall.mono ?_; rintro e w3 ⟨rfl, hb3⟩; have Hb3 := Lib.hid hb3; clear hb3)
                | fail)
              go_roundw
              case rel =>
                (repeat apply Exists.intro)
                refine ⟨?_, rfl⟩
                exact ⟨j + 1, by go_num, by omega, by show _ = _; rw [hf.out, Hstep.out]; rfl, hr.out.trans (Hb3.out.mono hr.out.size)⟩
              case measure => simp [intOf]; omega
          · obtain rfl : j = l.length := by omega
            have d1 : decide (((l.length : Nat) : Int) < l.length) = false := by simp
            go_wp2_with fail
            go_ret
            exact ⟨by rw [HRo.out, hf.out, List.drop_length, forms_nil]; rfl, Hbw.out⟩
end Go.Proofs.YtonhmjfopidacaaDoor.K
namespace Go.Proofs.YtonhmjfopidacaaDoor.K
set_option maxRecDepth 100000
open Go.RowKit
theorem wpList_load_refcore_want {ops : Array Oper} {rest : List Oper} {o : Oper} {a : Act} {w : World} {Q : Exit → Act → World → Prop} (hw : Region.wanted o (yielded ops a.tmps) = true) (x : Operand) (ho : o.op = .load 57 x)
    (b off : Nat) (cs : List Value) (hx : a.eval x = .pointer (some ⟨b, off, none⟩)) (hc : RefC w b off cs)
    (h : wpList Tryd.prog ops Q rest (a.put o.dst (.agg cs.toArray)) w) : wpList Tryd.prog ops Q (o :: rest) a w :=
  BigFrame.wpList_want hw fun _ hK => by
    unfold Oper.wp execOp
    simp only [ho, hx, Instr.loadAt, Instr.sureAddr, Sem.run_bind, Sem.run_pure, Result.andThen_ok, loadRefCore hc]
    exact hK _ _ h
theorem refc_box {w : World} {cs : List Value} (hl : cs.length = 259) : ∀ w', Below (w.heap.size + 1) (w.alloc (.cells cs.toArray 57)) w' → RefC w' w.heap.size 0 cs := fun w' hb => ⟨hl, fun q _ => by
  rw [Nat.zero_add, hb.cell (p := ⟨w.heap.size, q, none⟩) (by simp), cells_at (World.alloc_heap_new w _) q]
  simp⟩
set_option maxHeartbeats 4000000 in
theorem refGoodC_any (x : Cr) (cs : List Value) (w : World) (hat : Cr.ref w x cs) :
    Calls Tryd.prog 59 #[.agg cs.toArray] w fun e w' => e = .returned (.bool (goodC x)) ∧ Below w.heap.size w w' := by
  have hbx := refc_box (w := w) (refc_len hat)
  have hbel : Below w.heap.size w (w.alloc (.cells cs.toArray 57)) := (Below.refl _ _).alloc (Nat.le_refl _) _
  have hsz := fun (w' : World) (hb : Below w.heap.size w w') => refSizeC_any x.count x cs w' 2001 (Nat.le_refl _) (by decide) (Cr.ref_below hb hat)
  have hdp := fun (w' : World) (hb : Below w.heap.size w w') => refDeepC_any 8000 x cs w' (by decide) (Cr.ref_below hb hat)
  have hfm := fun (w' : World) (hb : Below w.heap.size w w') => refFormedC_any x.count x cs w' (Nat.le_refl _) (Cr.ref_below hb hat)
  obtain ⟨R, hR⟩ : ∃ R, R = goodC x := ⟨_, rfl⟩
  rw [← hR]
  unfold goodC at hR
  have hdc := Cr.deep_le x
  generalize hV : min x.count 2001 = V at hsz
  generalize hD : min x.deep (8000 + 1) = D at hdp
  have Hbx := Lib.hid hbx
  have Hbel := Lib.hid hbel
  have Hsz := Lib.hid hsz
  have Hdp := Lib.hid hdp
  have Hfm := Lib.hid hfm
  by_cases hc : x.count ≤ 2000
  · have HR := Lib.hid (show R = x.form by rw [hR, decide_eq_true hc]; rfl)
    have d1 : decide ((V : Int) ≤ 2000) = true := by simp; omega
    have d1' : decide (V ≤ 2000) = true := decide_eq_true (by omega)
    have d2 : decide ((D : Int) ≤ 8000) = true := by simp; omega
    have d2' : decide (D ≤ 8000) = true := decide_eq_true (by omega)
    clear hR hV hD hdc hc hbx hbel hsz hdp hfm hat
    go_enter Tryd.func59, Tryd.ntmps59
    go_upto_region 1 with (first
      | (refine Go.Great.wpList_boxTo rfl _ _ rfl _ rfl w.heap.size rfl cs.toArray rfl ?_)
      | fail)
    go_wp2_with (first
      | (refine wpList_load_refcore rfl _ rfl w.heap.size 0 cs rfl (Hbx.out _ (Below.refl _ _)) ?_)
      | fail)
    refine (Hsz.out _ Hbel.out).mono ?_
    rintro e w1 ⟨rfl, hb1⟩
    have Hb1 := Lib.hid hb1
    have Hc1 := Lib.hid (Hbel.out.trans (hb1.mono Hbel.out.size))
    clear hb1
    go_wp2_with (first
      | go_big_skip
      | (refine wpList_load_refcore_want (by rfl) _ rfl w.heap.size 0 cs rfl (Hbx.out _ (Hb1.out.mono (by simp))) ?_)
      | fail)
    refine (Hdp.out _ Hc1.out).mono ?_
    rintro e w2 ⟨rfl, hb2⟩
    have Hb2 := Lib.hid (Hb1.out.trans (hb2.mono Hb1.out.size))
    have Hc2 := Lib.hid (Hc1.out.trans (hb2.mono Hc1.out.size))
    clear hb2
    go_wp2_with (first
      | go_big_skip
      | (refine wpList_load_refcore_want (by rfl) _ rfl w.heap.size 0 cs rfl (Hbx.out _ (Hb2.out.mono (by simp))) ?_)
      | fail)
    refine (Hfm.out _ Hc2.out).mono ?_
    rintro e w3 ⟨rfl, hb3⟩
    have Hc3 := Lib.hid (Hc2.out.trans (hb3.mono Hc2.out.size))
    clear hb3
    rw [← HR.out]
    go_wp2_with fail
    go_ret
    exact ⟨by rfl, Hc3.out⟩
  · have HR := Lib.hid (show R = false by rw [hR, decide_eq_false hc]; rfl)
    have d1 : decide ((V : Int) ≤ 2000) = false := by simp; omega
    have d1' : decide (V ≤ 2000) = false := decide_eq_false (by omega)
    clear hR hV hD hdc hc hbx hbel hsz hdp hfm hat
    go_enter Tryd.func59, Tryd.ntmps59
    go_upto_region 1 with (first
      | (refine Go.Great.wpList_boxTo rfl _ _ rfl _ rfl w.heap.size rfl cs.toArray rfl ?_)
      | fail)
    go_wp2_with (first
      | (refine wpList_load_refcore rfl _ rfl w.heap.size 0 cs rfl (Hbx.out _ (Below.refl _ _)) ?_)
      | fail)
    refine (Hsz.out _ Hbel.out).mono ?_
    rintro e w1 ⟨rfl, hb1⟩
    have Hc1 := Lib.hid (Hbel.out.trans (hb1.mono Hbel.out.size))
    clear hb1
    go_wp2_with (first | go_big_skip | fail)
    go_ret
    exact ⟨by rw [HR.out]; rfl, Hc1.out⟩
end Go.Proofs.YtonhmjfopidacaaDoor.K
namespace Go.Proofs.YtonhmjfopidacaaDoor.K
set_option maxRecDepth 100000
open Go.RowKit
/-- a world of which only the blocks with p can be read -/
def veil (p : Nat → Bool) (w : World) : World := { w with heap := w.heap.mapIdx fun i o => if p i then o else .deferred none }
theorem veil_size (p : Nat → Bool) (w : World) : (veil p w).heap.size = w.heap.size := by simp [veil]
theorem veil_block {p : Nat → Bool} {w : World} {k : Nat} (h : p k = true) : (veil p w).heap[k]? = w.heap[k]? := by
  simp only [veil, Array.getElem?_mapIdx]
  cases hk : w.heap[k]? with
  | none => rfl
  | some o => simp [h]
theorem veil_cell {p : Nat → Bool} {w : World} {a : Addr} {v : Value} (h : (veil p w).cell? a = some v) : p a.block = true ∧ w.cell? a = some v := by
  cases hp : p a.block with
  | true => exact ⟨rfl, by rw [← h]; exact (World.cell?_of_block (veil_block hp)).symm⟩
  | false =>
    exfalso
    unfold World.cell? at h
    simp only [veil, Array.getElem?_mapIdx] at h
    cases hk : w.heap[a.block]? with
    | none => rw [hk] at h; cases h
    | some o => rw [hk] at h; simp [hp] at h
/-- a node of the document's own that hangs on blocks with p alone -/
def RefIn (p : Nat → Bool) (w : World) (x : Cr) (cs : List Value) : Prop := Cr.ref (veil p w) x cs
theorem RefIn.mono {p q : Nat → Bool} {w w' : World} {x : Cr} {cs : List Value} (h : RefIn p w x cs) (hs : w.heap.size ≤ w'.heap.size) (hk : ∀ k, p k = true → k < w.heap.size → q k = true ∧ w'.heap[k]? = w.heap[k]?) : RefIn q w' x cs := by
  refine Cr.ref_same (fun a v ha => ?_) (by rw [veil_size, veil_size]; exact hs) x cs h
  obtain ⟨h1, h2⟩ := veil_cell ha
  have h3 := hk _ h1 (World.block_lt_of_cell? w _ h2)
  rw [World.cell?_of_block (veil_block h3.1), World.cell?_of_block h3.2]
  exact h2
theorem RefIn.ref {p : Nat → Bool} {w : World} {x : Cr} {cs : List Value} (h : RefIn p w x cs) : Cr.ref w x cs :=
  Cr.ref_same (fun _ _ ha => (veil_cell ha).2) (by rw [veil_size]; exact Nat.le_refl _) x cs h
theorem refIn_len {p : Nat → Bool} {w : World} {x : Cr} {cs : List Value} (h : RefIn p w x cs) : cs.length = 259 := refc_len h.ref
/-- the zero node of the document's own -/
def zero259 : Array Value := (rcCells 0 0 0 (.slice none 0 0)).toArray
theorem zeroRefCore (w : World) : (zeroValue 57).run Tryd.prog w = .ok (.agg zero259) w := by kernel_rfl
theorem build_refcore (w : World) (k : Int) (s : BitVec 256) (n : Int) : (Instr.build 57 #[(0, .int .i64 k), (1, BV s.getLsbD), (2, .int .i64 n)]).run Tryd.prog w = .ok (.agg (rcCells k s n (.slice none 0 0)).toArray) w := by kernel_rfl
set_option maxHeartbeats 1000000 in
theorem lawOwn_any (s : BitVec 256) (w : World) : Calls Tryd.prog 46 #[SV s] w fun e w' => e = .returned (BV s.getLsbD) ∧ Below w.heap.size w w' := by
  have hz := zeroRef
  go_enter Tryd.func46, Tryd.ntmps46
  go_wp2_with fail
  refine (from_any s _).mono ?_
  rintro e w1 ⟨rfl, hb1⟩
  have hR : BAt w1 (w.heap.size + 1) bNone := (BAt.start (w.alloc _) _ _ rfl _ (by simp)).below hb1 (by simp)
  have hB : Below w.heap.size w w1 := (((Below.refl _ _).alloc (Nat.le_refl _) _).alloc (by simp) _).trans (hb1.mono (by simp; omega))
  go_wp2_with (first | (refine wpList_store_row rfl 54 _ _ rfl (w.heap.size + 1) _ rfl rfl _ _ hR (infoRef' _) (by rw [bc_size, bc_size]) (bc_one _) ?_))
  refine bodyPost_ret (v := BV s.getLsbD) (results_cell_row Tryd.results46 _ _ (w.heap.size + 1) _ _ _ _ rfl (BAt.rowSame hR) Tryd.underlying54 rfl (infoRef' _)) rfl ⟨rfl, below_row hB (by omega) _⟩
theorem quiet_build_refcore {o : Oper} {a : Act} {C : World → Prop} {K : Act → Prop} (x0 x1 x2 : Operand) (ho : o.op = .build 57 #[(0, x0), (1, x1), (2, x2)]) (k : Int) (s : BitVec 256) (n : Int)
    (h0 : a.eval x0 = .int .i64 k) (h1 : a.eval x1 = BV s.getLsbD) (h2 : a.eval x2 = .int .i64 n)
    (hK : K (a.put o.dst (.agg (rcCells k s n (.slice none 0 0)).toArray))) : o.quiet Tryd.prog a C K :=
  ⟨.agg (rcCells k s n (.slice none 0 0)).toArray, fun w hw => by
    have hm : (#[(0, x0), (1, x1), (2, x2)] : Array (Nat × Operand)).map (fun (i, x) => (i, a.eval x)) = #[(0, .int .i64 k), (1, BV s.getLsbD), (2, .int .i64 n)] := by simp [h0, h1, h2]
    unfold Oper.quietAt execOp
    simp only [ho, hm, Sem.run_bind, Sem.run_pure, build_refcore, Result.andThen_ok]
    exact ⟨rfl, rfl⟩, hK⟩
/-- a block holds a node of the document's own -/
def RBox (w : World) (b : Nat) (cs : Array Value) : Prop := w.heap[b]? = some (.cells cs 57 (0, 0))
theorem rbox_start (w : World) (cs : Array Value) : RBox (w.alloc (.cells cs 57)) w.heap.size cs := World.alloc_heap_new w _
theorem RBox.lt {w : World} {b : Nat} {cs : Array Value} (h : RBox w b cs) : b < w.heap.size := (Array.getElem?_eq_some_iff.1 h).1
theorem RBox.below {w w' : World} {b : Nat} {cs : Array Value} (h : RBox w b cs) {B : Nat} (hb : Below B w w') (hB : b < B) : RBox w' b cs := (hb.block b hB).trans h
theorem RBox.alloc {w : World} {b : Nat} {cs : Array Value} (h : RBox w b cs) (o : Obj) : RBox (w.alloc o) b cs := (Below.heap_alloc w o b h.lt).trans h
theorem infoRefCore' {cs : Array Value} (h : cs.size = 259) : (Tryd.prog.info? 57).map (·.size) = some cs.size := by rw [h]; exact infoRefCore
theorem zero259_size : zero259.size = 259 := by unfold zero259; rw [List.size_toArray]; exact rcCells_length ..
theorem rcCells_size (k : Int) (s : BitVec 256) (n : Int) (v : Value) : (rcCells k s n v).toArray.size = 259 := by rw [List.size_toArray]; exact rcCells_length ..
theorem rd_one (k : Int) (s : BitVec 256) (n : Int) (v : Value) (hv : v.oneCell' = true) : ((rcCells k s n v).toArray.all fun x => x.oneCell') = true := by
  rw [Array.all_eq_true_iff_forall_mem]
  intro u hu
  rw [List.mem_toArray] at hu
  unfold rcCells at hu
  rw [List.mem_cons, List.mem_append] at hu
  rcases hu with rfl | hu | hu
  · rfl
  · exact Array.all_eq_true_iff_forall_mem.1 (bc_one s.getLsbD) u (Array.mem_toList_iff.1 hu)
  · simp only [List.mem_cons, List.not_mem_nil, or_false] at hu
    rcases hu with rfl | rfl
    · rfl
    · exact hv
theorem foldl_put_zip : ∀ (l : List Value) (k : Nat) (Z : Array Value), Z.size = k + l.length → (l.zipIdx k).foldl (fun cs x => cs.setIfInBounds (0 + x.2) x.1) Z = (Z.toList.take k ++ l).toArray
  | [], k, Z, h => by
    simp at h
    simp [← h, ← Array.length_toList]
  | v :: l, k, Z, h => by
    rw [List.zipIdx_cons, List.foldl_cons, foldl_put_zip l (k + 1) _ (by simp at h ⊢; omega)]
    congr 1
    simp only [Nat.zero_add, Array.toList_setIfInBounds]
    rw [List.take_succ_eq_append_getElem (by simp at h ⊢; omega), List.take_set_of_le (by omega)]
    simp
theorem coresRef_cells {W : World} {b : Nat} : ∀ (L : List (Cr × List Value)) (off : Nat), (∀ p ∈ L, Cr.ref W p.1 p.2) → (∀ q, q < L.length * 259 → W.cell? ⟨b, off + q, none⟩ = (L.flatMap (·.2))[q]?) → coresRef W (L.map (·.1)) b off
  | [], off, _, _ => by rw [List.map_nil, coresRef_nil]; trivial
  | p :: L, off, h, hc => by
    rw [List.map_cons, coresRef_cons]
    have hp := refc_len (h p (by simp))
    refine ⟨⟨p.2, hp, fun q hq => ?_, h p (by simp)⟩, coresRef_cells L (off + 259) (fun r hr => h r (by simp [hr])) fun q hq => ?_⟩
    · rw [hc q (by simp; omega), List.flatMap_cons, List.getElem?_append_left (by omega)]
    · rw [Nat.add_assoc, hc (259 + q) (by simp; omega), List.flatMap_cons, List.getElem?_append_right (by omega)]
      congr 1
      omega
/-- a node whose list the call has gathered -/
theorem refIn_made {p : Nat → Bool} {w : World} {base : Nat} {k n : Int} {s : BitVec 256} {v : Value} {l : List Cr} (hf : fits64 k ∧ fits64 n) (L : List (Cr × List Value)) (hL : L.map (·.1) = l) (hmax : l.length ≤ maxLen)
    (h : ∀ q ∈ L, RefIn p w q.1 q.2) (hp : ∀ k, base ≤ k → p k = true) (ho : w.ownsRow base 57 259 v l.length (L.flatMap (·.2))) : RefIn p w (.mk k s n l) (rcCells k s n v) := by
  unfold RefIn
  rw [refc_mk]
  rcases ho.2 with ⟨rfl, h0⟩ | ⟨g, cap, cur, rfl, hb, hg, hc, hm, hs, htake⟩
  · exact ⟨hf.1, hf.2, none, 0, by rw [h0], hmax, .inl h0⟩
  · refine ⟨hf.1, hf.2, some ⟨g, 0, none⟩, cap, rfl, hmax, .inr ⟨g, 0, rfl, hc, by rw [veil_size]; exact (Array.getElem?_eq_some_iff.1 hg).1, ?_⟩⟩
    subst hL
    refine coresRef_cells L 0 h fun q hq => ?_
    have hlen := ho.1
    rw [List.length_map] at hlen
    obtain ⟨u, hu⟩ : ∃ u, (L.flatMap (·.2))[q]? = some u := ⟨_, List.getElem?_eq_getElem (by omega)⟩
    have := ho.cells (g := g) rfl q u hu
    rw [addr_at] at this
    rw [World.cell?_of_block (veil_block (hp g hb)), this, hu]
theorem info_refcore : (Tryd.prog.info? 57).map (fun i => (i.zero, i.size, i.bytes)) = some (some (.agg zero259), 259, 296) := by kernel_rfl
theorem fill_refcore (rs : List Value) (h : rs.length = 259) (Z : Array Value) (hZ : Z.size = 259) : Instr.fill (fun i => some (i * 259, 259)) Z [(0, .agg rs.toArray)] = some rs.toArray := by
  have hcs : (Value.agg rs.toArray).cells = rs.toArray := rfl
  simp only [Instr.fill, hcs, List.size_toArray, h, hZ]
  simp only [Nat.zero_mul, Nat.zero_add, ne_eq, not_true_eq_false, decide_false, Bool.false_or, gt_iff_lt, Nat.lt_irrefl, Bool.false_eq_true, if_false, Option.some.injEq]
  rw [← Array.foldl_toList, Array.toList_zipIdx]
  have := foldl_put_zip rs 0 Z (by rw [h, hZ])
  simpa using this
theorem build_refrow (w : World) (rs : List Value) (h : rs.length = 259) : (Instr.buildSlice 55 1 #[(0, .agg rs.toArray)]).run Tryd.prog w = .ok (.slice (some ⟨w.heap.size, 0, none⟩) 1 1) (w.alloc (.cells rs.toArray 57)) := by
  obtain ⟨i0, hi, hz0, hz1, hz2⟩ := info_parts info_refcore
  have hcz : (Value.agg zero259).cells = zero259 := rfl
  have hZ : (((Array.range 259).map fun i => (Value.agg zero259).cells[i % (Value.agg zero259).cells.size]!)).size = 259 := by simp
  have hf := fill_refcore rs h _ hZ
  unfold Instr.buildSlice
  simp only [Sem.run_bind, run_underlying Tryd.underlying55, Result.andThen_ok, sizeOf, typeInfo, Sem.run_pure, Nat.one_mul]
  have hzc : Tryd.zeroCells57 = zero259 := by kernel_rfl
  simp [hf, newRow, hzc, hi, hz1]
theorem wp_build_refrow {o : Oper} {a : Act} {w : World} {K : Act → World → Prop} {Q : Exit → Act → World → Prop} (x : Operand) (ho : o.op = .buildSlice 55 1 #[(0, x)]) (rs : List Value) (hrs : rs.length = 259) (hx : a.eval x = .agg rs.toArray)
    (h : K (a.put o.dst (.slice (some ⟨w.heap.size, 0, none⟩) 1 1)) (w.alloc (.cells rs.toArray 57))) : o.wp Tryd.prog a w K Q := by
  have hm : (#[(0, x)] : Array (Nat × Operand)).map (fun (i, x) => (i, a.eval x)) = #[(0, .agg rs.toArray)] := by simp [hx]
  unfold Oper.wp execOp
  simp only [ho, hm, Sem.run_bind, Sem.run_pure, build_refrow w rs hrs, Result.andThen_ok]
  exact h
theorem ref_one_cells {p : Nat → Bool} {w : World} {x : Cr} {cs : List Value} (h : RefIn p w x cs) : ∀ u ∈ cs, u.oneCell' = true := by
  cases x with
  | mk k s n l =>
    unfold RefIn at h
    rw [refc_mk] at h
    obtain ⟨_, _, a, cap, rfl, _⟩ := h
    intro u hu
    exact Array.all_eq_true_iff_forall_mem.1 (rd_one k s n _ rfl) u (by simpa using hu)
theorem wp_append_refcore {o : Oper} {a : Act} {w : World} {K : Act → World → Prop} {Q : Exit → Act → World → Prop} (s x : Operand) (ho : o.op = .call { callee := .builtin .append, args := #[s, x], argTypes := #[55, 55] })
    (base : Nat) (v : Value) (n : Nat) (xs : List Value) (hs : a.eval s = v) (hown : w.ownsRow base 57 259 v n xs) (b : Nat) (cs : List Value) (hx : a.eval x = .slice (some ⟨b, 0, none⟩) 1 1) (hc : RBox w b cs.toArray) (hcl : cs.length = 259)
    (h1 : ∀ u ∈ cs, u.oneCell' = true) (hn : n < 400000000000) (hbase : base ≤ w.heap.size)
    (h : ∀ v' w', w'.ownsRow base 57 259 v' (n + 1) (xs ++ cs) → w.grownBy w' v.ownBlock → (v'.ownBlock = v.ownBlock ∨ v'.ownBlock = some w.heap.size) → K (a.put o.dst v') w') : o.wp Tryd.prog a w K Q := by
  obtain ⟨i0, hi, hz0, hz1, hz2⟩ := info_parts info_refcore
  have hnews : ∀ j u, cs[j]? = some u → w.cell? ((⟨b, 0, none⟩ : Addr).add j) = some u := by
    intro j u hj
    rw [addr_at, cells_at hc, Nat.zero_add]
    simpa using hj
  obtain ⟨v', w', hr, h2, h3, _, h5⟩ := run_append_own_at (P := Tryd.prog) (w := w) base 55 o.type 57 i0 (.agg zero259) 259 296 Tryd.underlying55 hi hz0 hz1 hz2 zero259_size (by decide) v n xs hown ⟨b, 0, none⟩ 1 1 cs (by rw [hcl]) hnews h1 (by unfold maxLen; omega) (by omega) hbase
  unfold Oper.wp execOp
  simp only [ho, resolve, invoke, builtin, Sem.run_bind, Sem.run_pure, Result.andThen_ok, List.map_toArray, List.map_cons, List.map_nil, hs, hx, hr]
  exact h v' w' h2 h3 h5
theorem rd_set (k : Int) (s : BitVec 256) (n : Int) (v u : Value) : (rcCells k s n v).toArray.setIfInBounds 258 u = (rcCells k s n u).toArray := by
  unfold rcCells
  rw [List.setIfInBounds_toArray, List.set_cons_succ, List.set_append_right _ _ (by rw [Array.length_toList, bc_size]; decide), Array.length_toList, bc_size]
  rfl
theorem wp_load_core7 {o : Oper} {a : Act} {w : World} {K : Act → World → Prop} {Q : Exit → Act → World → Prop} (x : Operand) (ho : o.op = .load 28 x) (b off : Nat) (cs : List Value) (hx : a.eval x = .pointer (some ⟨b, off, none⟩)) (hc : Core7 w b off cs)
    (h : K (a.put o.dst (.agg cs.toArray)) w) : o.wp Tryd.prog a w K Q := by
  unfold Oper.wp execOp
  simp only [ho, hx, Instr.loadAt, Instr.sureAddr, Sem.run_bind, Sem.run_pure, Result.andThen_ok, loadCore hc]
  exact h
theorem rbox_free {w : World} {b : Nat} {cs : Array Value} (h : RBox w b cs) (o : Nat) : w.frozen? ⟨b, o, none⟩ = false := by
  unfold RBox at h
  simp [World.frozen?, h]
/-- what the loop holds -/
def NLoop (W2 wc : World) (b3 : Nat) (k : Int) (s : BitVec 256) (n : Int) (l : List Cr) (j : Nat) (v : Value) (acc : List (Cr × List Value)) (wr : World) : Prop :=
  (acc.length = j ∧ acc.map (·.1) = l.take j) ∧ (∀ p ∈ acc, RefIn (fun k => decide (wc.heap.size ≤ k) && decide (v.ownBlock ≠ some k)) wr p.1 p.2) ∧ RBox wr b3 (rcCells k s n v).toArray ∧ wr.ownsRow wc.heap.size 57 259 v j (acc.flatMap (·.2)) ∧ Below W2.heap.size W2 wr ∧ wc.heap.size ≤ wr.heap.size
theorem nloop_box {W2 wc wr w3 w5 : World} {b3 : Nat} {k : Int} {s : BitVec 256} {n : Int} {l : List Cr} {j : Nat} {v : Value} {acc : List (Cr × List Value)} {o : Obj} (h : NLoop W2 wc b3 k s n l j v acc wr) (hbc : b3 < wc.heap.size) (hb : Below wr.heap.size wr w3)
    (hg : (w3.alloc o).grownBy w5 v.ownBlock) : RBox w5 b3 (rcCells k s n v).toArray := by
  have h3 := h.2.2.1.below hb h.2.2.1.lt
  have h4 := h3.alloc o
  exact (hg.block b3 h4.lt (fun e => by have := (h.2.2.2.1.lt b3 e.symm).1; omega)).trans h4
theorem nloop_step {W2 wc wr w3 w5 : World} {b3 : Nat} {k : Int} {s : BitVec 256} {n : Int} {l : List Cr} {j : Nat} {v v' : Value} {acc : List (Cr × List Value)} {rs : List Value} {o : Obj} (h : NLoop W2 wc b3 k s n l j v acc wr) (hj : j < l.length) (hb3 : W2.heap.size ≤ b3) (hbc : b3 < wc.heap.size)
    (hb : Below wr.heap.size wr w3) (hr : RefIn (fun k => decide (wr.heap.size ≤ k)) w3 l[j] rs) (ho : w5.ownsRow wc.heap.size 57 259 v' (j + 1) (acc.flatMap (·.2) ++ rs)) (hg : (w3.alloc o).grownBy w5 v.ownBlock)
    (hf : v'.ownBlock = v.ownBlock ∨ v'.ownBlock = some (w3.alloc o).heap.size) : NLoop W2 wc b3 k s n l (j + 1) v' (acc ++ [(l[j], rs)]) (w5.setCell ⟨b3, 258, none⟩ v') := by
  have hbox := nloop_box h hbc hb hg
  obtain ⟨⟨h1, h2⟩, hin, hbx, hown, hbel, hsz⟩ := h
  have hs3 := hb.size
  have hs5 := hg.size
  rw [World.size_alloc] at hs5 hf
  have hv : ∀ g, v.ownBlock = some g → wc.heap.size ≤ g ∧ g < wr.heap.size := hown.lt
  have hkeep : ∀ q, q < w3.heap.size → q ≠ b3 → v.ownBlock ≠ some q → (w5.setCell ⟨b3, 258, none⟩ v').heap[q]? = w3.heap[q]? := fun q hq hne hvq => by
    rw [heap_setCell_other _ _ _ _ hne, hg.block q (by simp; omega) (fun e => hvq e.symm)]
    exact Below.heap_alloc _ _ _ hq
  have hv' : ∀ q, wc.heap.size ≤ q → q < w3.heap.size → v.ownBlock ≠ some q → v'.ownBlock ≠ some q := fun q _ hq hne e => by
    rcases hf with hf | hf
    · exact hne (by rw [← hf, e])
    · rw [hf] at e; injection e with e; omega
  refine ⟨⟨by simp [h1], by rw [List.map_append, h2, List.take_succ_eq_append_getElem hj]; rfl⟩, ?_, ?_, ?_, ?_, by simp; omega⟩
  · intro p hp
    rcases List.mem_append.1 hp with hp | hp
    · refine (hin p hp).mono (by simp; omega) fun q hq hlt => ?_
      simp only [Bool.and_eq_true, decide_eq_true_eq] at hq ⊢
      refine ⟨⟨hq.1, hv' q hq.1 (by omega) hq.2⟩, ?_⟩
      rw [hkeep q (by omega) (by omega) hq.2, hb.block q hlt]
    · simp only [List.mem_singleton] at hp
      subst hp
      refine hr.mono (by simp; omega) fun q hq hlt => ?_
      simp only [Bool.and_eq_true, decide_eq_true_eq] at hq ⊢
      have hne : v.ownBlock ≠ some q := fun e => by have := (hv q e).2; omega
      exact ⟨⟨by omega, hv' q (by omega) hlt hne⟩, hkeep q hlt (by omega) hne⟩
  · show RBox _ _ _
    rw [← rd_set k s n v v']
    exact heap_setCell_same w5 b3 258 _ _ v' hbox
  · rw [List.flatMap_append]
    have h := ownsRow_setCell_below ho (a := ⟨b3, 258, none⟩) hbc v'
    simpa using h
  · have hb5 : Below W2.heap.size W2 w5 := hbel.trans ⟨hg.os.trans hb.os, hg.tape.trans hb.tape, hg.output.trans hb.output, by omega, fun q hq => by
      have := hbel.size
      rw [hg.block q (by simp; omega) (fun e => by have := (hv q e.symm).1; omega), Below.heap_alloc _ _ _ (by omega)]
      exact hb.block q (by omega)⟩
    exact hb5.setCell hb3 _
/-- no list of the node is too long -/
def slimN : Nat → Cr → Bool
  | 0, _ => false
  | f + 1, .mk _ _ _ l => decide (l.length ≤ 100000) && l.all (slimN f)
set_option maxHeartbeats 8000000 in
theorem lawCore_any : ∀ (m : Nat) (x : Cr) (cs : List Value) (w : World), slimN m x = true → Cr.at w x cs →
    Calls Tryd.prog 27 #[.agg cs.toArray] w fun e w' => ∃ rs : List Value, e = .returned (.agg rs.toArray) ∧ RefIn (fun k => decide (w.heap.size ≤ k)) w' x rs ∧ Below w.heap.size w w'
  | 0, x, _, _, h, _ => absurd h (by rw [slimN]; simp)
  | m + 1, x, cs, w, hm, hat => by
    obtain ⟨k, s, n, l⟩ := x
    rw [at_mk] at hat
    obtain ⟨hfk, hfn, a, cap, rfl, hmax, hl⟩ := hat
    have hmx : (l.length : Int) ≤ 9223372036854775807 := by unfold maxLen at hmax; omega
    rw [slimN, Bool.and_eq_true, decide_eq_true_eq, List.all_eq_true] at hm
    have hz := zeroRefCore
    have hzs := zero259_size
    obtain ⟨Z, hZ⟩ : ∃ Z, Z = zero259 := ⟨_, rfl⟩
    rw [← hZ] at hz hzs
    have Hzs := Lib.hid hzs
    have Hm := Lib.hid hm
    have Hf := Lib.hid (And.intro hfk hfn)
    have Hih := Lib.hid (lawCore_any m)
    have Hl := Lib.hid hl
    have Hmax := Lib.hid hmax
    obtain ⟨W2, hW2⟩ : ∃ W2, W2 = (w.alloc (.cells #[.int .i64 k, .int .u64 (word s 0), .int .u64 (word s 1), .int .u64 (word s 2), .int .u64 (word s 3), .int .i64 n, .slice a l.length cap] 28)).alloc (.cells Z 57) := ⟨_, rfl⟩
    have hb2 : Below w.heap.size w W2 := by rw [hW2]; exact ((Below.refl _ _).alloc (Nat.le_refl _) _).alloc (by simp) _
    have hs2 : W2.heap.size = w.heap.size + 1 + 1 := by rw [hW2]; simp
    have hn2 : CoreIn W2 w.heap.size #[.int .i64 k, .int .u64 (word s 0), .int .u64 (word s 1), .int .u64 (word s 2), .int .u64 (word s 3), .int .i64 n, .slice a l.length cap] := by
      rw [hW2]; exact (Below.heap_alloc _ _ _ (by simp)).trans (World.alloc_heap_new w _)
    have hr2 : RBox W2 (w.heap.size + 1) Z := by rw [hW2]; have h := rbox_start (w.alloc (.cells #[.int .i64 k, .int .u64 (word s 0), .int .u64 (word s 1), .int .u64 (word s 2), .int .u64 (word s 3), .int .i64 n, .slice a l.length cap] 28)) Z; simpa using h
    have HW := Lib.hid (And.intro hb2 (And.intro hs2 (And.intro hn2 hr2)))
    clear hzs hm hfk hfn hl hmax hZ hb2 hs2 hn2 hr2
    go_enter Tryd.func27, Tryd.ntmps27
    go_upto_region 1 with fail
    rw [← hW2]
    clear hW2
    go_cut [3] from 5 to 12 (fun v wx => ∃ b3, v = .pointer (some ⟨b3, 0, none⟩) ∧ RBox wx b3 (rcCells k s n (.slice none 0 0)).toArray ∧ W2.heap.size ≤ b3 ∧ Below W2.heap.size W2 wx)
    case first =>
      have hne := Later.nonempty W2
      have hc := fun (L : Later W2) q (hq : w.heap.size < W2.heap.size) => (L.ok.cell (p := ⟨w.heap.size, q, none⟩) hq).trans (cells_at HW.out.2.2.1 q)
      have hlt : w.heap.size < W2.heap.size := by have := HW.out.2.1; omega
      have h0 := fun (L : Later W2) => hc L 0 hlt
      have h5 := fun (L : Later W2) => hc L 5 hlt
      have hl4 : ∀ w', (∃ L : Later W2, w' = L.val) → Set4 w' w.heap.size 1 s := fun w' hw' q hq => by
        obtain ⟨L, rfl⟩ := hw'
        rw [hc L (1 + q) hlt]
        have h4 : q = 0 ∨ q = 1 ∨ q = 2 ∨ q = 3 := by omega
        rcases h4 with rfl | rfl | rfl | rfl <;> rfl
      simp only [List.getElem?_toArray, List.getElem?_cons_zero] at h0 h5
      clear hc hlt
      refine wp_region_eager (.plain 0 (.plain 1 (.plain 2 (.plain 3 (.plain 5 (.plain 6 (.fork 4 (.plain 7 (.sole 8 (.sole 9 .done))) 8 (.sole 4 (.plain 7 (.sole 9 .done)))))))))) (W0 := W2) (Below.refl _ _) (by kernel_rfl) (by kernel_rfl) (fun c a d v w h => by cases d <;> exact h) ?_
      repeat (first
        | (refine' eager_want ?_ ?_ (fun K hK => ?_)
           rotate_left 1
           · simp only [List.getElem?_toArray, List.getElem?_cons_zero, List.getElem?_cons_succ]; exact rfl
           · exact rfl
           first
           | (refine quiet_load_set _ rfl w.heap.size 1 _ rfl hl4 ?_; refine hK _ ?_; clear hK K; try simp only [Act.put, List.setIfInBounds_toArray, List.set_cons_zero, List.set_cons_succ])
           | (go_big_quiet_op; refine hK _ ?_; clear hK K)))
      have hdrew : Below W2.heap.size W2 W2.drew := (Below.refl _ _).drew
      refine eager_fork ?_ ?_
      · refine' step_call ?_ ?_ (fun K hK => ?_)
        rotate_left 1
        · simp only [List.getElem?_toArray, List.getElem?_cons_zero, List.getElem?_cons_succ]; exact rfl
        · exact rfl
        go_simp
        refine (lawOwn_any s _).mono ?_
        rintro e w3 ⟨rfl, hb3⟩
        refine hK _ _ hb3 ?_
        have hcur := hdrew.trans hb3
        clear hb3 hK K
        try simp only [Act.put, List.setIfInBounds_toArray, List.set_cons_zero, List.set_cons_succ]
        refine' eager_want ?_ ?_ (fun K hK => ?_)
        rotate_left 1
        · simp only [List.getElem?_toArray, List.getElem?_cons_zero, List.getElem?_cons_succ]; exact rfl
        · exact rfl
        refine quiet_build_refcore _ _ _ rfl k s n rfl rfl rfl ?_
        refine hK _ ?_
        clear hK K
        try simp only [Act.put, List.setIfInBounds_toArray, List.set_cons_zero, List.set_cons_succ]
        refine' eager_call ?_ ?_ (fun K hK => ?_)
        rotate_left 1
        · simp only [List.getElem?_toArray, List.getElem?_cons_zero, List.getElem?_cons_succ]; exact rfl
        · exact rfl
        go_simp
        refine hK _ _ ((Below.refl _ _).alloc (Nat.le_refl _) _) ?_
        clear hK K
        try simp only [Act.put, List.setIfInBounds_toArray, List.set_cons_zero, List.set_cons_succ]
        have hbx := rbox_start w3 Z
        have hcur3 := hcur.alloc hcur.size (.cells Z 57)
        refine' eager_write ?_ ?_ (fun K hK => ?_)
        rotate_left 1
        · simp only [List.getElem?_toArray, List.getElem?_cons_zero, List.getElem?_cons_succ]; exact rfl
        · exact rfl
        refine wp_store_row 57 _ _ rfl (w3.heap.size) _ rfl rfl _ _ hbx (infoRefCore' (rcCells_size k s n _)) (by rw [Hzs.out]; exact (rcCells_size k s n _).symm) (rd_one k s n _ rfl) ?_
        refine hK _ _ (below_row (Below.refl _ _) hcur.size _) ?_
        clear hK K
        refine eager_done ?_
        go_wp2_with fail
        go_meet
        exact ⟨w3.heap.size, rfl, setRow_heap _ _ _ _ _ _ hbx, hcur.size, below_row hcur3 hcur.size _⟩
      · refine' step_call ?_ ?_ (fun K hK => ?_)
        rotate_left 1
        · simp only [List.getElem?_toArray, List.getElem?_cons_zero, List.getElem?_cons_succ]; exact rfl
        · exact rfl
        go_simp
        refine hK _ _ ((Below.refl _ _).alloc (Nat.le_refl _) _) ?_
        clear hK K
        try simp only [Act.put, List.setIfInBounds_toArray, List.set_cons_zero, List.set_cons_succ]
        have hbx := rbox_start W2.drew Z
        have hcur3 := hdrew.alloc hdrew.size (.cells Z 57)
        refine' eager_call ?_ ?_ (fun K hK => ?_)
        rotate_left 1
        · simp only [List.getElem?_toArray, List.getElem?_cons_zero, List.getElem?_cons_succ]; exact rfl
        · exact rfl
        go_simp
        refine (lawOwn_any s _).mono ?_
        rintro e w3 ⟨rfl, hb3⟩
        refine hK _ _ hb3 ?_
        have hcur := hcur3.trans (hb3.mono hcur3.size)
        have hbx3 := hbx.below hb3 hbx.lt
        clear hb3 hK K
        try simp only [Act.put, List.setIfInBounds_toArray, List.set_cons_zero, List.set_cons_succ]
        refine' eager_want ?_ ?_ (fun K hK => ?_)
        rotate_left 1
        · simp only [List.getElem?_toArray, List.getElem?_cons_zero, List.getElem?_cons_succ]; exact rfl
        · exact rfl
        refine quiet_build_refcore _ _ _ rfl k s n rfl rfl rfl ?_
        refine hK _ ?_
        clear hK K
        try simp only [Act.put, List.setIfInBounds_toArray, List.set_cons_zero, List.set_cons_succ]
        refine' eager_write ?_ ?_ (fun K hK => ?_)
        rotate_left 1
        · simp only [List.getElem?_toArray, List.getElem?_cons_zero, List.getElem?_cons_succ]; exact rfl
        · exact rfl
        refine wp_store_row 57 _ _ rfl (W2.heap.size) _ rfl rfl _ _ hbx3 (infoRefCore' (rcCells_size k s n _)) (by rw [Hzs.out]; exact (rcCells_size k s n _).symm) (rd_one k s n _ rfl) ?_
        refine hK _ _ (below_row (Below.refl _ _) (Nat.le_refl _) _) ?_
        clear hK K
        refine eager_done ?_
        go_wp2_with fail
        go_meet
        exact ⟨W2.heap.size, rfl, setRow_heap _ _ _ _ _ _ hbx3, Nat.le_refl _, below_row hcur (Nat.le_refl _) _⟩
    case rest =>
      obtain ⟨b3, rfl, hbx, hb3, hbel⟩ := hcut
      -- GEN
      have HB3 := Lib.hid (And.intro hb3 hbx.lt)
      have Hbx := Lib.hid hbx
      have Hbel := Lib.hid hbel
      have Hwlt := Lib.hid (show w.heap.size < W2.heap.size ∧ w.heap.size + 1 < W2.heap.size by have := HW.out.2.1; omega)
      have c8 : wc.cell? ⟨w.heap.size, 6, none⟩ = some (.slice a l.length cap) := by
        rw [hbel.cell (p := ⟨w.heap.size, 6, none⟩) Hwlt.out.1, cells_at HW.out.2.2.1]; rfl
      have HC8 := Lib.hid c8
      clear c8 hbx hbel hb3
      go_upto_region 3 with fail
      go_loopw [4] (fun i wr => ∃ (j : Nat) (v : Value) (acc : List (Cr × List Value)), i = .int .i64 j ∧ j ≤ l.length ∧ Hid (NLoop W2 wc b3 k s n l j v acc wr)) (fun i _ => l.length - (intOf i).toNat)
      case atStart => exact ⟨0, .slice none 0 0, [], rfl, Nat.zero_le _, ⟨rfl, rfl⟩, (fun p hp => by cases hp), Hbx.out, World.ownsRow_nil _ _ _ _, Hbel.out, Nat.le_refl _⟩
      case round =>
        obtain ⟨j, v, acc, rfl, hj, HNL⟩ := hrel
        have Bw : Below w.heap.size w wr := HW.out.1.trans (HNL.out.2.2.2.2.1.mono HW.out.1.size)
        have c8 : wr.cell? ⟨w.heap.size, 6, none⟩ = some (.slice a l.length cap) := by
          rw [HNL.out.2.2.2.2.1.cell (p := ⟨w.heap.size, 6, none⟩) Hwlt.out.1, cells_at HW.out.2.2.1]; rfl
        by_cases hjl : j < l.length
        · have d1 : decide ((j : Int) < l.length) = true := by simp; omega
          have Hjl := Lib.hid hjl
          obtain ⟨b, off, rfl, hcap, hbw, hnodes⟩ : ∃ b off, a = some ⟨b, off, none⟩ ∧ l.length ≤ cap ∧ b < w.heap.size ∧ coresAt w l b off := by
            rcases Hl.out with h | h
            · omega
            · exact h
          obtain ⟨cs, hcs, hcell, hchild⟩ := nodes_get w b l off hnodes j hjl
          have hcnt : slimN m l[j] = true := Hm.out.2 _ (List.getElem_mem hjl)
          have hdrew : Below wr.heap.size wr wr.drew := (Below.refl _ _).drew
          have hcall := fun w' (hb : Below wr.heap.size wr w') => Hih.out l[j] cs w' hcnt (Cr.at_below (Bw.trans (hb.mono Bw.size)) (Nat.le_refl _) _ _ hchild)
          have h9 : Core7 wr.drew b (off + j * 7) cs := ⟨hcs, fun q hq => by rw [(Bw.drew).cell (p := ⟨b, off + j * 7 + q, none⟩) hbw]; exact hcell q hq⟩
          have hq : wr.drew.cell? ⟨b3, 258, none⟩ = some v := refc_slice HNL.out.2.2.1
          have c8d : wr.drew.cell? ⟨w.heap.size, 6, none⟩ = some (.slice (some ⟨b, off, none⟩) l.length cap) := c8
          have HjN := Lib.hid (show j < 400000000000 by have := Hm.out.1; omega)
          clear hcs hcell hchild hcnt hnodes hcap
          go_wp2_with fail
          refine wp_region_free (.plain 0 (.plain 2 (.plain 4 (.fork 1 (.sole 3 (.plain 5 (.sole 6 (.sole 7 (.sole 8 (.sole 9 (.plain 10 (.sole 11 .done)))))))) 3 (.plain 5 (.fork 1 (.sole 6 (.sole 7 (.sole 8 (.sole 9 (.plain 10 (.sole 11 .done)))))) 6 (.fork 1 (.sole 7 (.sole 8 (.sole 9 (.plain 10 (.sole 11 .done))))) 7 (.fork 1 (.sole 8 (.sole 9 (.plain 10 (.sole 11 .done)))) 8 (.sole 1 (.sole 9 (.plain 10 (.sole 11 .done)))))))))))) (by kernel_rfl) (by kernel_rfl) (fun c a d v w h => by cases d <;> exact h) ?_
          refine' free_plain ?_ ?_ (fun K hK => ?_)
          rotate_left 1
          · simp only [List.getElem?_toArray, List.getElem?_cons_zero]; exact rfl
          · exact rfl
          go_big_quiet_op
          refine hK _ ?_
          clear hK K
          try simp only [Act.put, List.setIfInBounds_toArray, List.set_cons_zero, List.set_cons_succ]
          refine' free_plain ?_ ?_ (fun K hK => ?_)
          rotate_left 1
          · simp only [List.getElem?_toArray, List.getElem?_cons_zero, List.getElem?_cons_succ]; exact rfl
          · exact rfl
          go_big_quiet_op
          refine hK _ ?_
          clear hK K
          try simp only [Act.put, List.setIfInBounds_toArray, List.set_cons_zero, List.set_cons_succ]
          refine' free_plain ?_ ?_ (fun K hK => ?_)
          rotate_left 1
          · simp only [List.getElem?_toArray, List.getElem?_cons_zero, List.getElem?_cons_succ]; exact rfl
          · exact rfl
          go_big_quiet_op
          refine hK _ ?_
          clear hK K
          try simp only [Act.put, List.setIfInBounds_toArray, List.set_cons_zero, List.set_cons_succ]
          refine free_fork ?_ ?_
          · refine' free_step ?_ ?_ (fun K hK => ?_)
            rotate_left 1
            · simp only [List.getElem?_toArray, List.getElem?_cons_zero, List.getElem?_cons_succ]; exact rfl
            · exact rfl
            unfold Oper.wp execOp
            go_simp
            refine hK _ _ ?_
            clear hK K
            try simp only [Act.put, List.setIfInBounds_toArray, List.set_cons_zero, List.set_cons_succ]
            refine' free_sole ?_ ?_ (fun K hK => ?_)
            rotate_left 1
            · simp only [List.getElem?_toArray, List.getElem?_cons_zero, List.getElem?_cons_succ]; exact rfl
            · exact rfl
            unfold Oper.wp execOp
            go_simp
            refine hK _ _ ?_
            clear hK K
            try simp only [Act.put, List.setIfInBounds_toArray, List.set_cons_zero, List.set_cons_succ]
            refine' free_plain ?_ ?_ (fun K hK => ?_)
            rotate_left 1
            · simp only [List.getElem?_toArray, List.getElem?_cons_zero, List.getElem?_cons_succ]; exact rfl
            · exact rfl
            go_big_quiet_op
            refine hK _ ?_
            clear hK K
            try simp only [Act.put, List.setIfInBounds_toArray, List.set_cons_zero, List.set_cons_succ]
            refine' free_sole ?_ ?_ (fun K hK => ?_)
            rotate_left 1
            · simp only [List.getElem?_toArray, List.getElem?_cons_zero, List.getElem?_cons_succ]; exact rfl
            · exact rfl
            refine wp_load_core7 _ rfl b (off + j * 7) cs rfl h9 ?_
            refine hK _ _ ?_
            clear hK K
            try simp only [Act.put, List.setIfInBounds_toArray, List.set_cons_zero, List.set_cons_succ]
            refine' free_sole ?_ ?_ (fun K hK => ?_)
            rotate_left 1
            · simp only [List.getElem?_toArray, List.getElem?_cons_zero, List.getElem?_cons_succ]; exact rfl
            · exact rfl
            go_simp
            refine (hcall _ hdrew).mono ?_
            rintro e w3 ⟨rs, rfl, hrind, hb3d⟩
            have hb3 : Below wr.heap.size wr w3 := hdrew.trans (hb3d.mono hdrew.size)
            have hrin : RefIn (fun k => decide (wr.heap.size ≤ k)) w3 l[j] rs := hrind
            clear hb3d hrind
            have q3 : w3.cell? ⟨b3, 258, none⟩ = some v := (hb3.cell (p := ⟨b3, 258, none⟩) HNL.out.2.2.1.lt).trans hq
            refine hK _ _ ?_
            clear hK K
            try simp only [Act.put, List.setIfInBounds_toArray, List.set_cons_zero, List.set_cons_succ]
            refine' free_sole ?_ ?_ (fun K hK => ?_)
            rotate_left 1
            · simp only [List.getElem?_toArray, List.getElem?_cons_zero, List.getElem?_cons_succ]; exact rfl
            · exact rfl
            refine wp_build_refrow _ rfl rs (refIn_len hrin) rfl ?_
            have q4 : (w3.alloc (.cells rs.toArray 57)).cell? ⟨b3, 258, none⟩ = some v := (((Below.refl _ _).alloc (Nat.le_refl _) _).cell (p := ⟨b3, 258, none⟩) (World.block_lt_of_cell? w3 _ q3)).trans q3
            refine hK _ _ ?_
            clear hK K
            try simp only [Act.put, List.setIfInBounds_toArray, List.set_cons_zero, List.set_cons_succ]
            refine' free_sole ?_ ?_ (fun K hK => ?_)
            rotate_left 1
            · simp only [List.getElem?_toArray, List.getElem?_cons_zero, List.getElem?_cons_succ]; exact rfl
            · exact rfl
            refine wp_append_refcore _ _ rfl wc.heap.size v j _ rfl ((owns_below HNL.out.2.2.2.1 hb3).alloc _) w3.heap.size rs rfl (rbox_start _ _) (refIn_len hrin) (ref_one_cells hrin) (by have := HjN.out; omega) (by have h1 := HNL.out.2.2.2.2.2; have h2 := hb3.size; simp; omega) ?_
            intro v' w5 hown5 hgr5 hfr5
            obtain ⟨g', cap', rfl⟩ := ownsRow_succ hown5
            have hbx5 := nloop_box HNL.out HB3.out.2 hb3 hgr5
            have h258f := rbox_free hbx5 258
            have h258c := refc_slice hbx5
            have Hst := Lib.hid (nloop_step HNL.out Hjl.out HB3.out.1 HB3.out.2 hb3 hrin hown5 hgr5 hfr5)
            refine hK _ _ ?_
            clear hK K hown5 hgr5 hfr5 hbx5 q4 q3
            try simp only [Act.put, List.setIfInBounds_toArray, List.set_cons_zero, List.set_cons_succ]
            refine' free_plain ?_ ?_ (fun K hK => ?_)
            rotate_left 1
            · simp only [List.getElem?_toArray, List.getElem?_cons_zero, List.getElem?_cons_succ]; exact rfl
            · exact rfl
            go_big_quiet_op
            refine hK _ ?_
            clear hK K
            try simp only [Act.put, List.setIfInBounds_toArray, List.set_cons_zero, List.set_cons_succ]
            refine' free_sole ?_ ?_ (fun K hK => ?_)
            rotate_left 1
            · simp only [List.getElem?_toArray, List.getElem?_cons_zero, List.getElem?_cons_succ]; exact rfl
            · exact rfl
            unfold Oper.wp execOp
            go_simp
            refine hK _ _ ?_
            clear hK K
            refine free_done ?_
            go_wp2_with fail
            go_roundw
            case rel => exact ⟨j + 1, _, _, by go_num, Hjl.out, Hst.out⟩
            case measure => simp [intOf]; omega
          · refine' free_step ?_ ?_ (fun K hK => ?_)
            rotate_left 1
            · simp only [List.getElem?_toArray, List.getElem?_cons_zero, List.getElem?_cons_succ]; exact rfl
            · exact rfl
            unfold Oper.wp execOp
            go_simp
            refine hK _ _ ?_
            clear hK K
            try simp only [Act.put, List.setIfInBounds_toArray, List.set_cons_zero, List.set_cons_succ]
            refine' free_plain ?_ ?_ (fun K hK => ?_)
            rotate_left 1
            · simp only [List.getElem?_toArray, List.getElem?_cons_zero, List.getElem?_cons_succ]; exact rfl
            · exact rfl
            go_big_quiet_op
            refine hK _ ?_
            clear hK K
            try simp only [Act.put, List.setIfInBounds_toArray, List.set_cons_zero, List.set_cons_succ]
            refine free_fork ?_ ?_
            · refine' free_step ?_ ?_ (fun K hK => ?_)
              rotate_left 1
              · simp only [List.getElem?_toArray, List.getElem?_cons_zero, List.getElem?_cons_succ]; exact rfl
              · exact rfl
              unfold Oper.wp execOp
              go_simp
              refine hK _ _ ?_
              clear hK K
              try simp only [Act.put, List.setIfInBounds_toArray, List.set_cons_zero, List.set_cons_succ]
              refine' free_sole ?_ ?_ (fun K hK => ?_)
              rotate_left 1
              · simp only [List.getElem?_toArray, List.getElem?_cons_zero, List.getElem?_cons_succ]; exact rfl
              · exact rfl
              refine wp_load_core7 _ rfl b (off + j * 7) cs rfl h9 ?_
              refine hK _ _ ?_
              clear hK K
              try simp only [Act.put, List.setIfInBounds_toArray, List.set_cons_zero, List.set_cons_succ]
              refine' free_sole ?_ ?_ (fun K hK => ?_)
              rotate_left 1
              · simp only [List.getElem?_toArray, List.getElem?_cons_zero, List.getElem?_cons_succ]; exact rfl
              · exact rfl
              go_simp
              refine (hcall _ hdrew).mono ?_
              rintro e w3 ⟨rs, rfl, hrind, hb3d⟩
              have hb3 : Below wr.heap.size wr w3 := hdrew.trans (hb3d.mono hdrew.size)
              have hrin : RefIn (fun k => decide (wr.heap.size ≤ k)) w3 l[j] rs := hrind
              clear hb3d hrind
              have q3 : w3.cell? ⟨b3, 258, none⟩ = some v := (hb3.cell (p := ⟨b3, 258, none⟩) HNL.out.2.2.1.lt).trans hq
              refine hK _ _ ?_
              clear hK K
              try simp only [Act.put, List.setIfInBounds_toArray, List.set_cons_zero, List.set_cons_succ]
              refine' free_sole ?_ ?_ (fun K hK => ?_)
              rotate_left 1
              · simp only [List.getElem?_toArray, List.getElem?_cons_zero, List.getElem?_cons_succ]; exact rfl
              · exact rfl
              refine wp_build_refrow _ rfl rs (refIn_len hrin) rfl ?_
              have q4 : (w3.alloc (.cells rs.toArray 57)).cell? ⟨b3, 258, none⟩ = some v := (((Below.refl _ _).alloc (Nat.le_refl _) _).cell (p := ⟨b3, 258, none⟩) (World.block_lt_of_cell? w3 _ q3)).trans q3
              refine hK _ _ ?_
              clear hK K
              try simp only [Act.put, List.setIfInBounds_toArray, List.set_cons_zero, List.set_cons_succ]
              refine' free_sole ?_ ?_ (fun K hK => ?_)
              rotate_left 1
              · simp only [List.getElem?_toArray, List.getElem?_cons_zero, List.getElem?_cons_succ]; exact rfl
              · exact rfl
              refine wp_append_refcore _ _ rfl wc.heap.size v j _ rfl ((owns_below HNL.out.2.2.2.1 hb3).alloc _) w3.heap.size rs rfl (rbox_start _ _) (refIn_len hrin) (ref_one_cells hrin) (by have := HjN.out; omega) (by have h1 := HNL.out.2.2.2.2.2; have h2 := hb3.size; simp; omega) ?_
              intro v' w5 hown5 hgr5 hfr5
              obtain ⟨g', cap', rfl⟩ := ownsRow_succ hown5
              have hbx5 := nloop_box HNL.out HB3.out.2 hb3 hgr5
              have h258f := rbox_free hbx5 258
              have h258c := refc_slice hbx5
              have Hst := Lib.hid (nloop_step HNL.out Hjl.out HB3.out.1 HB3.out.2 hb3 hrin hown5 hgr5 hfr5)
              refine hK _ _ ?_
              clear hK K hown5 hgr5 hfr5 hbx5 q4 q3
              try simp only [Act.put, List.setIfInBounds_toArray, List.set_cons_zero, List.set_cons_succ]
              refine' free_plain ?_ ?_ (fun K hK => ?_)
              rotate_left 1
              · simp only [List.getElem?_toArray, List.getElem?_cons_zero, List.getElem?_cons_succ]; exact rfl
              · exact rfl
              go_big_quiet_op
              refine hK _ ?_
              clear hK K
              try simp only [Act.put, List.setIfInBounds_toArray, List.set_cons_zero, List.set_cons_succ]
              refine' free_sole ?_ ?_ (fun K hK => ?_)
              rotate_left 1
              · simp only [List.getElem?_toArray, List.getElem?_cons_zero, List.getElem?_cons_succ]; exact rfl
              · exact rfl
              unfold Oper.wp execOp
              go_simp
              refine hK _ _ ?_
              clear hK K
              refine free_done ?_
              go_wp2_with fail
              go_roundw
              case rel => exact ⟨j + 1, _, _, by go_num, Hjl.out, Hst.out⟩
              case measure => simp [intOf]; omega
            · refine' free_step ?_ ?_ (fun K hK => ?_)
              rotate_left 1
              · simp only [List.getElem?_toArray, List.getElem?_cons_zero, List.getElem?_cons_succ]; exact rfl
              · exact rfl
              refine wp_load_core7 _ rfl b (off + j * 7) cs rfl h9 ?_
              refine hK _ _ ?_
              clear hK K
              try simp only [Act.put, List.setIfInBounds_toArray, List.set_cons_zero, List.set_cons_succ]
              refine free_fork ?_ ?_
              · refine' free_step ?_ ?_ (fun K hK => ?_)
                rotate_left 1
                · simp only [List.getElem?_toArray, List.getElem?_cons_zero, List.getElem?_cons_succ]; exact rfl
                · exact rfl
                unfold Oper.wp execOp
                go_simp
                refine hK _ _ ?_
                clear hK K
                try simp only [Act.put, List.setIfInBounds_toArray, List.set_cons_zero, List.set_cons_succ]
                refine' free_sole ?_ ?_ (fun K hK => ?_)
                rotate_left 1
                · simp only [List.getElem?_toArray, List.getElem?_cons_zero, List.getElem?_cons_succ]; exact rfl
                · exact rfl
                go_simp
                refine (hcall _ hdrew).mono ?_
                rintro e w3 ⟨rs, rfl, hrind, hb3d⟩
                have hb3 : Below wr.heap.size wr w3 := hdrew.trans (hb3d.mono hdrew.size)
                have hrin : RefIn (fun k => decide (wr.heap.size ≤ k)) w3 l[j] rs := hrind
                clear hb3d hrind
                have q3 : w3.cell? ⟨b3, 258, none⟩ = some v := (hb3.cell (p := ⟨b3, 258, none⟩) HNL.out.2.2.1.lt).trans hq
                refine hK _ _ ?_
                clear hK K
                try simp only [Act.put, List.setIfInBounds_toArray, List.set_cons_zero, List.set_cons_succ]
                refine' free_sole ?_ ?_ (fun K hK => ?_)
                rotate_left 1
                · simp only [List.getElem?_toArray, List.getElem?_cons_zero, List.getElem?_cons_succ]; exact rfl
                · exact rfl
                refine wp_build_refrow _ rfl rs (refIn_len hrin) rfl ?_
                have q4 : (w3.alloc (.cells rs.toArray 57)).cell? ⟨b3, 258, none⟩ = some v := (((Below.refl _ _).alloc (Nat.le_refl _) _).cell (p := ⟨b3, 258, none⟩) (World.block_lt_of_cell? w3 _ q3)).trans q3
                refine hK _ _ ?_
                clear hK K
                try simp only [Act.put, List.setIfInBounds_toArray, List.set_cons_zero, List.set_cons_succ]
                refine' free_sole ?_ ?_ (fun K hK => ?_)
                rotate_left 1
                · simp only [List.getElem?_toArray, List.getElem?_cons_zero, List.getElem?_cons_succ]; exact rfl
                · exact rfl
                refine wp_append_refcore _ _ rfl wc.heap.size v j _ rfl ((owns_below HNL.out.2.2.2.1 hb3).alloc _) w3.heap.size rs rfl (rbox_start _ _) (refIn_len hrin) (ref_one_cells hrin) (by have := HjN.out; omega) (by have h1 := HNL.out.2.2.2.2.2; have h2 := hb3.size; simp; omega) ?_
                intro v' w5 hown5 hgr5 hfr5
                obtain ⟨g', cap', rfl⟩ := ownsRow_succ hown5
                have hbx5 := nloop_box HNL.out HB3.out.2 hb3 hgr5
                have h258f := rbox_free hbx5 258
                have h258c := refc_slice hbx5
                have Hst := Lib.hid (nloop_step HNL.out Hjl.out HB3.out.1 HB3.out.2 hb3 hrin hown5 hgr5 hfr5)
                refine hK _ _ ?_
                clear hK K hown5 hgr5 hfr5 hbx5 q4 q3
                try simp only [Act.put, List.setIfInBounds_toArray, List.set_cons_zero, List.set_cons_succ]
                refine' free_plain ?_ ?_ (fun K hK => ?_)
                rotate_left 1
                · simp only [List.getElem?_toArray, List.getElem?_cons_zero, List.getElem?_cons_succ]; exact rfl
                · exact rfl
                go_big_quiet_op
                refine hK _ ?_
                clear hK K
                try simp only [Act.put, List.setIfInBounds_toArray, List.set_cons_zero, List.set_cons_succ]
                refine' free_sole ?_ ?_ (fun K hK => ?_)
                rotate_left 1
                · simp only [List.getElem?_toArray, List.getElem?_cons_zero, List.getElem?_cons_succ]; exact rfl
                · exact rfl
                unfold Oper.wp execOp
                go_simp
                refine hK _ _ ?_
                clear hK K
                refine free_done ?_
                go_wp2_with fail
                go_roundw
                case rel => exact ⟨j + 1, _, _, by go_num, Hjl.out, Hst.out⟩
                case measure => simp [intOf]; omega
              · refine' free_step ?_ ?_ (fun K hK => ?_)
                rotate_left 1
                · simp only [List.getElem?_toArray, List.getElem?_cons_zero, List.getElem?_cons_succ]; exact rfl
                · exact rfl
                go_simp
                refine (hcall _ hdrew).mono ?_
                rintro e w3 ⟨rs, rfl, hrind, hb3d⟩
                have hb3 : Below wr.heap.size wr w3 := hdrew.trans (hb3d.mono hdrew.size)
                have hrin : RefIn (fun k => decide (wr.heap.size ≤ k)) w3 l[j] rs := hrind
                clear hb3d hrind
                have q3 : w3.cell? ⟨b3, 258, none⟩ = some v := (hb3.cell (p := ⟨b3, 258, none⟩) HNL.out.2.2.1.lt).trans hq
                refine hK _ _ ?_
                clear hK K
                try simp only [Act.put, List.setIfInBounds_toArray, List.set_cons_zero, List.set_cons_succ]
                refine free_fork ?_ ?_
                · refine' free_step ?_ ?_ (fun K hK => ?_)
                  rotate_left 1
                  · simp only [List.getElem?_toArray, List.getElem?_cons_zero, List.getElem?_cons_succ]; exact rfl
                  · exact rfl
                  unfold Oper.wp execOp
                  go_simp
                  refine hK _ _ ?_
                  clear hK K
                  try simp only [Act.put, List.setIfInBounds_toArray, List.set_cons_zero, List.set_cons_succ]
                  refine' free_sole ?_ ?_ (fun K hK => ?_)
                  rotate_left 1
                  · simp only [List.getElem?_toArray, List.getElem?_cons_zero, List.getElem?_cons_succ]; exact rfl
                  · exact rfl
                  refine wp_build_refrow _ rfl rs (refIn_len hrin) rfl ?_
                  have q4 : (w3.alloc (.cells rs.toArray 57)).cell? ⟨b3, 258, none⟩ = some v := (((Below.refl _ _).alloc (Nat.le_refl _) _).cell (p := ⟨b3, 258, none⟩) (World.block_lt_of_cell? w3 _ q3)).trans q3
                  refine hK _ _ ?_
                  clear hK K
                  try simp only [Act.put, List.setIfInBounds_toArray, List.set_cons_zero, List.set_cons_succ]
                  refine' free_sole ?_ ?_ (fun K hK => ?_)
                  rotate_left 1
                  · simp only [List.getElem?_toArray, List.getElem?_cons_zero, List.getElem?_cons_succ]; exact rfl
                  · exact rfl
                  refine wp_append_refcore _ _ rfl wc.heap.size v j _ rfl ((owns_below HNL.out.2.2.2.1 hb3).alloc _) w3.heap.size rs rfl (rbox_start _ _) (refIn_len hrin) (ref_one_cells hrin) (by have := HjN.out; omega) (by have h1 := HNL.out.2.2.2.2.2; have h2 := hb3.size; simp; omega) ?_
                  intro v' w5 hown5 hgr5 hfr5
                  obtain ⟨g', cap', rfl⟩ := ownsRow_succ hown5
                  have hbx5 := nloop_box HNL.out HB3.out.2 hb3 hgr5
                  have h258f := rbox_free hbx5 258
                  have h258c := refc_slice hbx5
                  have Hst := Lib.hid (nloop_step HNL.out Hjl.out HB3.out.1 HB3.out.2 hb3 hrin hown5 hgr5 hfr5)
                  refine hK _ _ ?_
                  clear hK K hown5 hgr5 hfr5 hbx5 q4 q3
                  try simp only [Act.put, List.setIfInBounds_toArray, List.set_cons_zero, List.set_cons_succ]
                  refine' free_plain ?_ ?_ (fun K hK => ?_)
                  rotate_left 1
                  · simp only [List.getElem?_toArray, List.getElem?_cons_zero, List.getElem?_cons_succ]; exact rfl
                  · exact rfl
                  go_big_quiet_op
                  refine hK _ ?_
                  clear hK K
                  try simp only [Act.put, List.setIfInBounds_toArray, List.set_cons_zero, List.set_cons_succ]
                  refine' free_sole ?_ ?_ (fun K hK => ?_)
                  rotate_left 1
                  · simp only [List.getElem?_toArray, List.getElem?_cons_zero, List.getElem?_cons_succ]; exact rfl
                  · exact rfl
                  unfold Oper.wp execOp
                  go_simp
                  refine hK _ _ ?_
                  clear hK K
                  refine free_done ?_
                  go_wp2_with fail
                  go_roundw
                  case rel => exact ⟨j + 1, _, _, by go_num, Hjl.out, Hst.out⟩
                  case measure => simp [intOf]; omega
                · refine' free_step ?_ ?_ (fun K hK => ?_)
                  rotate_left 1
                  · simp only [List.getElem?_toArray, List.getElem?_cons_zero, List.getElem?_cons_succ]; exact rfl
                  · exact rfl
                  refine wp_build_refrow _ rfl rs (refIn_len hrin) rfl ?_
                  have q4 : (w3.alloc (.cells rs.toArray 57)).cell? ⟨b3, 258, none⟩ = some v := (((Below.refl _ _).alloc (Nat.le_refl _) _).cell (p := ⟨b3, 258, none⟩) (World.block_lt_of_cell? w3 _ q3)).trans q3
                  refine hK _ _ ?_
                  clear hK K
                  try simp only [Act.put, List.setIfInBounds_toArray, List.set_cons_zero, List.set_cons_succ]
                  refine' free_sole ?_ ?_ (fun K hK => ?_)
                  rotate_left 1
                  · simp only [List.getElem?_toArray, List.getElem?_cons_zero, List.getElem?_cons_succ]; exact rfl
                  · exact rfl
                  unfold Oper.wp execOp
                  go_simp
                  refine hK _ _ ?_
                  clear hK K
                  try simp only [Act.put, List.setIfInBounds_toArray, List.set_cons_zero, List.set_cons_succ]
                  refine' free_sole ?_ ?_ (fun K hK => ?_)
                  rotate_left 1
                  · simp only [List.getElem?_toArray, List.getElem?_cons_zero, List.getElem?_cons_succ]; exact rfl
                  · exact rfl
                  refine wp_append_refcore _ _ rfl wc.heap.size v j _ rfl ((owns_below HNL.out.2.2.2.1 hb3).alloc _) w3.heap.size rs rfl (rbox_start _ _) (refIn_len hrin) (ref_one_cells hrin) (by have := HjN.out; omega) (by have h1 := HNL.out.2.2.2.2.2; have h2 := hb3.size; simp; omega) ?_
                  intro v' w5 hown5 hgr5 hfr5
                  obtain ⟨g', cap', rfl⟩ := ownsRow_succ hown5
                  have hbx5 := nloop_box HNL.out HB3.out.2 hb3 hgr5
                  have h258f := rbox_free hbx5 258
                  have h258c := refc_slice hbx5
                  have Hst := Lib.hid (nloop_step HNL.out Hjl.out HB3.out.1 HB3.out.2 hb3 hrin hown5 hgr5 hfr5)
                  refine hK _ _ ?_
                  clear hK K hown5 hgr5 hfr5 hbx5 q4 q3
                  try simp only [Act.put, List.setIfInBounds_toArray, List.set_cons_zero, List.set_cons_succ]
                  refine' free_plain ?_ ?_ (fun K hK => ?_)
                  rotate_left 1
                  · simp only [List.getElem?_toArray, List.getElem?_cons_zero, List.getElem?_cons_succ]; exact rfl
                  · exact rfl
                  go_big_quiet_op
                  refine hK _ ?_
                  clear hK K
                  try simp only [Act.put, List.setIfInBounds_toArray, List.set_cons_zero, List.set_cons_succ]
                  refine' free_sole ?_ ?_ (fun K hK => ?_)
                  rotate_left 1
                  · simp only [List.getElem?_toArray, List.getElem?_cons_zero, List.getElem?_cons_succ]; exact rfl
                  · exact rfl
                  unfold Oper.wp execOp
                  go_simp
                  refine hK _ _ ?_
                  clear hK K
                  refine free_done ?_
                  go_wp2_with fail
                  go_roundw
                  case rel => exact ⟨j + 1, _, _, by go_num, Hjl.out, Hst.out⟩
                  case measure => simp [intOf]; omega
        · have d1 : decide ((j : Int) < l.length) = false := by simp; omega
          obtain rfl : j = l.length := by omega
          have hv1 : v.oneCell' = true := by
            rcases HNL.out.2.2.2.1.2 with ⟨rfl, _⟩ | ⟨_, _, _, rfl, _⟩ <;> rfl
          have hres : RefIn (fun k => decide (wc.heap.size ≤ k)) wr (.mk k s n l) (rcCells k s n v) :=
            refIn_made Hf.out acc (by rw [HNL.out.1.2, List.take_length]) Hmax.out (fun q hq => (HNL.out.2.1 q hq).mono (Nat.le_refl _) fun q hq _ => by simp only [Bool.and_eq_true] at hq; exact ⟨hq.1, rfl⟩) (fun k hk => by simpa using hk) HNL.out.2.2.2.1
          have h259 : RefC wr b3 0 (rcCells k s n v) := ⟨rcCells_length .., fun q hq => by
            have h := cells_at (show wr.heap[b3]? = some (.cells (rcCells k s n v).toArray 57 (0, 0)) from HNL.out.2.2.1) q
            rw [Nat.zero_add, h]; simp⟩
          have hone := rd_one k s n v hv1
          have hlen := rcCells_length k s n v
          have hZb : RBox wr (w.heap.size + 1) Z := HW.out.2.2.2.below HNL.out.2.2.2.2.1 Hwlt.out.2
          have hwc : w.heap.size + 1 < wc.heap.size := by have := HB3.out; have := Hwlt.out; omega
          generalize rcCells k s n v = C at hres h259 hone hlen
          have Hres := Lib.hid hres
          have Hone := Lib.hid hone
          have Hlen := Lib.hid hlen
          have HZb := Lib.hid hZb
          have Hwc := Lib.hid hwc
          have HBw := Lib.hid Bw
          have H259 := Lib.hid h259
          clear hres hone hlen hv1 hZb HNL hj hjl hwc Bw h259
          go_wp2_with (first
            | (refine wpList_load_refcore rfl _ rfl b3 0 C rfl H259.out ?_)
            | (refine wpList_store_row rfl 57 _ _ rfl (w.heap.size + 1) _ rfl rfl _ _ HZb.out (infoRefCore' (by rw [List.size_toArray]; exact Hlen.out)) (by rw [Hzs.out, List.size_toArray]; exact Hlen.out.symm) Hone.out ?_)
            | fail)
          refine bodyPost_ret (v := .agg C.toArray) (results_cell_row Tryd.results27 _ _ (w.heap.size + 1) _ _ _ _ rfl (setRow_heap wr _ _ C.toArray _ _ HZb.out) Tryd.underlying57 rfl (infoRefCore' (by rw [List.size_toArray]; exact Hlen.out))) rfl ⟨C, rfl, ?_, below_row HBw.out (by omega) _⟩
          refine Hres.out.mono (by simp) fun q hq hlt => ?_
          simp only [decide_eq_true_eq] at hq ⊢
          exact ⟨by have := Hwc.out; omega, setRow_other wr _ q _ (by have := Hwc.out; omega)⟩
end Go.Proofs.YtonhmjfopidacaaDoor.K
