/- The document's own Depth. -/
import Derived.Test.YtaanhijjhllckaaRefSize
namespace Go.Proofs.Ytaanhijjhllckaa
set_option maxRecDepth 100000
open Go.RowKit
theorem deepsRef_take : ∀ (l : List Nd) (j : Nat) (hj : j < l.length), deeps (l.take (j + 1)) = max (deeps (l.take j)) l[j].deep
  | x :: l, 0, _ => by
    rw [List.take_succ_cons, List.take_zero, List.take_zero]
    unfold deeps
    unfold deeps
    simp
  | x :: l, j + 1, hj => by
    rw [List.take_succ_cons, List.take_succ_cons]
    unfold deeps
    rw [deepsRef_take l j (by simpa using hj)]
    simp only [List.getElem_cons_succ]
    omega
set_option maxHeartbeats 4000000 in
theorem refDepth_any : ∀ (most : Nat) (x : Nd) (cs : List Value) (w : World), most ≤ 1000 → Nd.ref w x cs →
    Calls Try.prog 15 #[.agg cs.toArray, .int .i64 most] w fun e w' => e = .returned (.int .i64 (min x.deep (most + 1) : Nat)) ∧ Below w.heap.size w w'
  | 0, x, cs, w, _, hat => by
    obtain ⟨k, s, lo, hi, n, l⟩ := x
    rw [deep_mk, show min (1 + deeps l) (0 + 1) = 1 from by omega]
    clear hat
    go_enter Try.func15, Try.ntmps15
    go_wp2_with (first
      | (refine Go.Great.wpList_boxTo rfl _ _ rfl _ rfl w.heap.size rfl cs.toArray rfl ?_)
      | fail)
    go_ret
    exact ⟨rfl, (Below.refl _ _).alloc (Nat.le_refl _) _⟩
  | most + 1, x, cs, w, hmost, hat => by
    obtain ⟨k, s, lo, hi, n, l⟩ := x
    rw [ref_mk] at hat
    obtain ⟨_, _, _, _, a, cap, rfl, hmax, hl⟩ := hat
    have hmx : (l.length : Int) ≤ 9223372036854775807 := by unfold maxLen at hmax; omega
    clear hmax
    rw [deep_mk]
    have hbx : ∀ v, (w.alloc (.cells (rdCells k s lo hi n v).toArray 36)).cell? ⟨w.heap.size, 260, none⟩ = some v := fun v => ref_slice (World.alloc_heap_new w _)
    have hb0 := hbx (.slice a l.length cap)
    generalize hC : rdCells k s lo hi n (.slice a l.length cap) = C at *
    have ih := refDepth_any most
    have Hih := Lib.hid ih
    have hdm : decide (((most + 1 : Nat) : Int) ≤ 0) = false := decide_eq_false (by omega)
    have hdm2 : ¬ ((most + 1 : Nat) : Int) ≤ 0 := by omega
    have hsub : ((most + 1 : Nat) : Int) - 1 = (most : Int) := by omega
    have hFb : ((most + 1 : Nat) : Int) ≤ 1001 := by omega
    obtain ⟨N, hN⟩ : ∃ N, N = min (1 + deeps l) (most + 1 + 1) := ⟨_, rfl⟩
    rw [← hN]
    have HN := Lib.hid hN
    generalize hF : ((most + 1 : Nat) : Int) = F at *
    have HF := Lib.hid hF
    clear hC hbx ih hN hF
    go_enter Try.func15, Try.ntmps15
    go_wp2_with (first
      | (refine Go.Great.wpList_boxTo rfl _ _ rfl _ rfl w.heap.size rfl C.toArray rfl ?_)
      | fail)
    go_loopw [5, 6] (fun kk i wr => ∃ (j K : Nat), i = .int .i64 j ∧ kk = .int .i64 K ∧ j ≤ l.length ∧ Hid (K = min (deeps (l.take j)) (most + 1)) ∧ Hid (Below (w.alloc (.cells C.toArray 36)).heap.size (w.alloc (.cells C.toArray 36)) wr)) (fun _ i _ => l.length - (intOf i).toNat)
    case atStart =>
      refine ⟨0, 0, rfl, rfl, Nat.zero_le _, ?_, Below.refl _ _⟩
      show _ = _
      rw [List.take_zero]
      unfold deeps
      omega
    case round =>
      obtain ⟨j, K, rfl, rfl, hj, hK, hB⟩ := hrel
      have hc0 : wr.cell? ⟨w.heap.size, 260, none⟩ = some (.slice a l.length cap) := by rw [hB.out.cell (p := ⟨w.heap.size, 260, none⟩) (by simp)]; exact hb0
      have HBw : Hid (Below w.heap.size w wr) := ((Below.refl _ _).alloc (Nat.le_refl _) _).trans (hB.out.mono (by simp))
      have hK1 : K ≤ 1001 := by have := hK.out; omega
      by_cases hjl : j < l.length
      · have d1 : decide ((j : Int) < l.length) = true := by simp; omega
        rcases hl with hl | ⟨b, off, rfl, hcap, hbw, hnodes⟩
        · omega
        · obtain ⟨cs, hcs, hcell, hchild⟩ := nodesRef_get w b l off hnodes j hjl
          have h261 : Ref261 wr b (off + j * 261) cs := ⟨hcs, fun q hq => by rw [HBw.out.cell (p := ⟨b, off + j * 261 + q, none⟩) hbw]; exact hcell q hq⟩
          have hcall := Hih.out l[j] cs wr (by omega) (Nd.ref_below HBw.out hchild)
          have hstep := deepsRef_take l j hjl
          have Hstep := Lib.hid hstep
          generalize hv : min l[j].deep (most + 1) = v at hcall
          have Hv := Lib.hid hv
          clear hcell hchild hnodes hstep hv hcs
          by_cases hlt : K < v
          · have d2 : decide ((K : Int) < v) = true := by simp; omega
            have e2 : decide (K < v) = true := decide_eq_true hlt
            go_wp2_with (first
              | (refine wpList_load_refnode rfl _ rfl b (off + j * 261) cs rfl h261 ?_)
              | (go_at_call 15; refine hcall.mono ?_; rintro e w3 ⟨rfl, hb3⟩; have Hb3 := Lib.hid hb3; clear hb3)
              | fail)
            go_roundw
            case rel =>
              refine ⟨j + 1, v, by go_num, rfl, by omega, ?_, hB.out.trans (Hb3.out.mono hB.out.size)⟩
              show _ = _
              rw [Hstep.out]
              have h1 := hK.out
              have h2 := Hv.out
              omega
            case measure => simp [intOf]; omega
          · have d2 : decide ((K : Int) < v) = false := by simp; omega
            have e2 : decide (K < v) = false := decide_eq_false hlt
            go_wp2_with (first
              | (refine wpList_load_refnode rfl _ rfl b (off + j * 261) cs rfl h261 ?_)
              | (go_at_call 15; refine hcall.mono ?_; rintro e w3 ⟨rfl, hb3⟩; have Hb3 := Lib.hid hb3; clear hb3)
              | fail)
            go_roundw
            case rel =>
              refine ⟨j + 1, K, by go_num, rfl, by omega, ?_, hB.out.trans (Hb3.out.mono hB.out.size)⟩
              show _ = _
              rw [Hstep.out]
              have h1 := hK.out
              have h2 := Hv.out
              omega
            case measure => simp [intOf]; omega
      · have d1 : decide ((j : Int) < l.length) = false := by simp; omega
        have e1 : decide (j < l.length) = false := decide_eq_false hjl
        have hz : N = K + 1 := by
          have h1 := hK.out
          have h2 := HN.out
          have : j = l.length := by omega
          rw [this, List.take_length] at h1
          omega
        have Hz := Lib.hid hz
        clear hz
        go_wp2_with fail
        go_ret
        exact ⟨by rw [Hz.out]; rfl, HBw.out⟩
end Go.Proofs.Ytaanhijjhllckaa
