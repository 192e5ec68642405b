/- The document's own Size. -/
import Derived.Test.YtaanhijjhllckaaRefTree
import Derived.Great.Ranges
import Derived.Test.YtaanhijjhllckaaTreeAwake
namespace Go.Proofs.Ytaanhijjhllckaa
set_option maxRecDepth 100000
open Go.RowKit
theorem wpList_load_refnode {ops : Array Oper} {rest : List Oper} {o : Oper} {a : Act} {w : World} {Q : Exit → Act → World → Prop} (hgd : o.guard = none) (x : Operand) (ho : o.op = .load 36 x)
    (b off : Nat) (cs : List Value) (hx : a.eval x = .pointer (some ⟨b, off, none⟩)) (hc : Ref261 w b off cs)
    (h : wpList Try.prog ops Q rest (a.put o.dst (.agg cs.toArray)) w) : wpList Try.prog ops Q (o :: rest) a w :=
  wpList_plain hgd fun _ hK => by
    unfold Oper.wp execOp
    simp only [ho, hx, Instr.loadAt, Instr.sureAddr, Sem.run_bind, Sem.run_pure, Result.andThen_ok, loadRefNode hc]
    exact hK _ _ h
/-- the slice of nodes in a boxed node -/
theorem ref_slice {w : World} {b : Nat} {k lo hi n : Int} {s : BitVec 256} {v : Value} (h : w.heap[b]? = some (.cells (rdCells k s lo hi n v).toArray 36)) : w.cell? ⟨b, 260, none⟩ = some v := by
  rw [cells_at h]
  show (rdCells k s lo hi n v)[260]? = some v
  unfold rdCells
  rw [List.getElem?_cons_succ, List.getElem?_append_right (by rw [Array.length_toList, bc_size]; decide), Array.length_toList, bc_size]
  rfl
theorem counts_take_succ : ∀ (l : List Nd) (j : Nat) (hj : j < l.length), counts (l.take (j + 1)) = counts (l.take j) + l[j].count
  | x :: l, 0, _ => by
    rw [List.take_succ_cons, List.take_zero, List.take_zero]
    unfold counts
    unfold counts
    simp
  | x :: l, j + 1, hj => by
    rw [List.take_succ_cons, List.take_succ_cons]
    unfold counts
    rw [counts_take_succ l j (by simpa using hj)]
    simp only [List.getElem_cons_succ]
    omega
set_option maxHeartbeats 4000000 in
theorem refSize_any : ∀ (m : Nat) (x : Nd) (cs : List Value) (w : World) (most : Nat), x.count ≤ m → most ≤ 1000000 → Nd.ref w x cs →
    Calls Try.prog 13 #[.agg cs.toArray, .int .i64 most] w fun e w' => e = .returned (.int .i64 (min x.count most : Nat)) ∧ Below w.heap.size w w'
  | 0, x, _, _, _, h, _, _ => absurd (Nd.count_pos x) (by omega)
  | m + 1, x, cs, w, most, hm, hmost, hat => by
    obtain ⟨k, s, lo, hi, n, l⟩ := x
    rw [ref_mk] at hat
    obtain ⟨_, _, _, _, a, cap, rfl, hmax, hl⟩ := hat
    have hmx : (l.length : Int) ≤ 9223372036854775807 := by unfold maxLen at hmax; omega
    clear hmax
    rw [count_mk] at hm ⊢
    have hbx : ∀ v, (w.alloc (.cells (rdCells k s lo hi n v).toArray 36)).cell? ⟨w.heap.size, 260, none⟩ = some v := fun v => ref_slice (World.alloc_heap_new w _)
    have hb0 := hbx (.slice a l.length cap)
    generalize hC : rdCells k s lo hi n (.slice a l.length cap) = C at *
    have HC := Lib.hid hC
    have ih := refSize_any m
    have Hih := Lib.hid ih
    obtain ⟨N, hN⟩ : ∃ N, N = 1 + counts l := ⟨_, rfl⟩
    rw [← hN]
    have HN := Lib.hid hN
    have Hm := Lib.hid hm
    clear hC hbx ih hN hm
    go_enter Try.func13, Try.ntmps13
    go_wp2_with (first
      | (refine Go.Great.wpList_boxTo rfl _ _ rfl _ rfl w.heap.size rfl C.toArray rfl ?_)
      | fail)
    go_loopw [5, 6] (fun kk i wr => ∃ (j K : Nat), i = .int .i64 j ∧ kk = .int .i64 K ∧ j ≤ l.length ∧ Hid ((most = 0 ∧ j = 0 ∧ K = 1) ∨ (0 < most ∧ K = min (1 + counts (l.take j)) most)) ∧ Hid (Below (w.alloc (.cells C.toArray 36)).heap.size (w.alloc (.cells C.toArray 36)) wr)) (fun _ i _ => l.length - (intOf i).toNat)
    case atStart =>
      refine ⟨0, 1, rfl, rfl, Nat.zero_le _, ?_, Below.refl _ _⟩
      show _ ∨ _
      by_cases h0 : most = 0
      · exact .inl ⟨h0, rfl, rfl⟩
      · refine .inr ⟨by omega, ?_⟩
        rw [List.take_zero]
        unfold counts
        omega
    case round =>
      obtain ⟨j, K, rfl, rfl, hj, hK, hB⟩ := hrel
      have hc0 : wr.cell? ⟨w.heap.size, 260, none⟩ = some (.slice a l.length cap) := by rw [hB.out.cell (p := ⟨w.heap.size, 260, none⟩) (by simp)]; exact hb0
      have HBw : Hid (Below w.heap.size w wr) := ((Below.refl _ _).alloc (Nat.le_refl _) _).trans (hB.out.mono (by simp))
      by_cases hgo : j < l.length ∧ K ≤ most
      · have hjl := hgo.1
        have d1 : decide ((j : Int) < l.length) = true := by simp; omega
        have d2 : decide ((K : Int) ≤ most) = true := by simp; omega
        have hm0 : 0 < most := by rcases hK.out with ⟨h1, _, h3⟩ | ⟨h1, _⟩ <;> omega
        rcases hl with hl | ⟨b, off, rfl, hcap, hbw, hnodes⟩
        · omega
        · obtain ⟨cs, hcs, hcell, hchild⟩ := nodesRef_get w b l off hnodes j hjl
          have h261 : Ref261 wr b (off + j * 261) cs := ⟨hcs, fun q hq => by rw [HBw.out.cell (p := ⟨b, off + j * 261 + q, none⟩) hbw]; exact hcell q hq⟩
          have hcnt : l[j].count ≤ m := by
            have h1 := counts_mem (List.getElem_mem hjl)
            have := Hm.out
            omega
          have hcall := Hih.out l[j] cs wr (most - K) hcnt (by omega) (Nd.ref_below HBw.out hchild)
          have hsub : (most : Int) - (K : Int) = ((most - K : Nat) : Int) := by omega
          have hstep := counts_take_succ l j hjl
          have Hstep := Lib.hid hstep
          generalize hv : min l[j].count (most - K) = v at hcall
          have hKb : K ≤ 1000001 := by rcases hK.out with ⟨_, _, h3⟩ | ⟨_, h2⟩ <;> omega
          have hvb : (K : Int) + (v : Int) ≤ 9223372036854775807 := by omega
          have hvc : (-9223372036854775808 : Int) ≤ (K : Int) + (v : Int) := by omega
          have Hv := Lib.hid hv
          clear hcell hchild hnodes hstep hv hcnt hcs
          go_wp2_with (first
            | (refine wpList_load_refnode rfl _ rfl b (off + j * 261) cs rfl h261 ?_)
            | (go_at_call 13; refine hcall.mono ?_; rintro e w3 ⟨rfl, hb3⟩; have Hb3 := Lib.hid hb3; clear hb3)
            | fail)
          go_roundw
          case rel =>
            refine ⟨j + 1, K + v, by go_num, by go_num, by omega, ?_, hB.out.trans (Hb3.out.mono hB.out.size)⟩
            refine .inr ⟨hm0, ?_⟩
            rw [Hstep.out, ← Hv.out]
            rcases hK.out with ⟨h1, _, _⟩ | ⟨_, h2⟩
            · omega
            · omega
          case measure => simp [intOf]; omega
      · have hfin : Hid ((most = 0 ∧ K = 1) ∨ (0 < most ∧ K = min N most)) := by
          show _ ∨ _
          rcases hK.out with ⟨h1, _, h3⟩ | ⟨h1, h2⟩
          · exact .inl ⟨h1, h3⟩
          · have : j = l.length := by omega
            rw [this, List.take_length] at h2
            exact .inr ⟨h1, by rw [h2, HN.out]⟩
        have hK1 : K ≤ 1000001 := by rcases hK.out with ⟨_, _, h3⟩ | ⟨_, h2⟩ <;> omega
        by_cases hjl : j < l.length
        · have d1 : decide ((j : Int) < l.length) = true := by simp; omega
          have e1 : decide (j < l.length) = true := decide_eq_true hjl
          have hKm : most < K := by omega
          have d2 : decide ((K : Int) ≤ most) = false := by simp; omega
          have e2 : decide (K ≤ most) = false := decide_eq_false (by omega)
          have e3 : decide (most < K) = true := decide_eq_true hKm
          have e4 : ¬ K ≤ most := by omega
          have d3 : decide ((most : Int) < K) = true := by simp; omega
          have hz : min N most = most := by rcases hfin.out with ⟨h1, h2⟩ | ⟨h1, h2⟩ <;> omega
          have Hz := Lib.hid hz
          clear hgo hz
          go_wp2_with fail
          go_ret
          exact ⟨by rw [Hz.out]; rfl, HBw.out⟩
        · have d1 : decide ((j : Int) < l.length) = false := by simp; omega
          have e1 : decide (j < l.length) = false := decide_eq_false hjl
          by_cases hKm : most < K
          · have d3 : decide ((most : Int) < K) = true := by simp; omega
            have e3 : decide (most < K) = true := decide_eq_true hKm
            have hz : min N most = most := by rcases hfin.out with ⟨h1, h2⟩ | ⟨h1, h2⟩ <;> omega
            have Hz := Lib.hid hz
            clear hgo hz
            go_wp2_with fail
            go_ret
            exact ⟨by rw [Hz.out]; rfl, HBw.out⟩
          · have d3 : decide ((most : Int) < K) = false := by simp; omega
            have e3 : decide (most < K) = false := decide_eq_false hKm
            have hz : min N most = K := by rcases hfin.out with ⟨h1, h2⟩ | ⟨h1, h2⟩ <;> omega
            have Hz := Lib.hid hz
            clear hgo hz
            go_wp2_with fail
            go_ret
            exact ⟨by rw [Hz.out]; rfl, HBw.out⟩
end Go.Proofs.Ytaanhijjhllckaa
