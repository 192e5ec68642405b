/- The laws' own wide, walked. -/
import Derived.Test.YtblgjcolmaidlaaValKit
import Derived.Deep.LoopGhost
namespace Go.Proofs.Ytblgjcolmaidlaa
namespace V
set_option maxRecDepth 100000
open Go.RowKit
/-- more than the law asks of -/
def wideN : Nat → Vl → Bool
  | 0, _ => true
  | f + 1, .mk _ _ l => decide (30 < l.length) || l.any (wideN f)
set_option maxHeartbeats 2000000 in
theorem wide_any : ∀ (f : Nat) (x : Vl) (cs : List Value) (w : World), f < 4611686018427387904 → Vl.at w x cs →
    Calls Try.prog 14 #[.agg cs.toArray, .int .i64 f] w fun e w' => e = .returned (.bool (wideN f x)) ∧ Below w.heap.size w w'
  | 0, x, cs, w, _, h => by
    cases x with
    | mk k z l =>
      rw [at_mk] at h
      obtain ⟨_, _, a, cap, rfl, _, _⟩ := h
      show Calls _ _ _ _ fun e w' => e = .returned (.bool true) ∧ _
      go_enter Try.func14, Try.ntmps14
      go_wp2_with fail
      go_ret
      exact ⟨rfl, (Below.refl _ _).alloc (Nat.le_refl _) _⟩
  | f + 1, x, cs, w, hf, h => by
    cases x with
    | mk k z l =>
      have hat := h
      rw [at_mk] at h
      obtain ⟨_, _, a, cap, rfl, hmax, hl⟩ := h
      have ih := wide_any f
      have hd0 : decide (((f + 1 : Nat) : Int) < 1) = false := by simp; omega
      have hsub : ((f + 1 : Nat) : Int) - 1 = (f : Int) := by omega
      generalize hF : ((f + 1 : Nat) : Int) = F at hd0 hsub ⊢
      have hFb : F ≤ 4611686018427387904 := by omega
      have hF0 : 0 ≤ F := by omega
      clear hF
      by_cases h3 : 30 < l.length
      · rw [show wideN (f + 1) (.mk k z l) = true from by rw [wideN, decide_eq_true h3]; rfl]
        have hd : decide ((30 : Int) < l.length) = true := by simp; omega
        go_enter Try.func14, Try.ntmps14
        go_wp2_with fail
        go_ret
        exact ⟨rfl, (Below.refl _ _).alloc (Nat.le_refl _) _⟩
      · have hd : decide ((30 : Int) < l.length) = false := by simp; omega
        have hR : wideN (f + 1) (.mk k z l) = l.any (wideN f) := by rw [wideN, decide_eq_false h3]; rfl
        rw [hR]
        obtain ⟨R, hRR⟩ : ∃ R, R = l.any (wideN f) := ⟨_, rfl⟩
        rw [← hRR]
        have HR := Lib.hid hRR
        clear hRR hR hat
        go_enter Try.func14, Try.ntmps14
        go_wp2_with fail
        go_loopw [5] (fun i wr => ∃ j : Nat, i = .int .i64 j ∧ j ≤ l.length ∧ (l.take j).any (wideN f) = false ∧ Below (w.heap.size + 1) (w.alloc (.cells #[.int .i64 k, .int .u8 z, .slice a l.length cap] 25)) wr) (fun i _ => l.length - (intOf i).toNat)
        case atStart => exact ⟨0, rfl, Nat.zero_le _, rfl, Below.refl _ _⟩
        case round =>
          obtain ⟨j, rfl, hj, hno, hr⟩ := hrel
          have cr : ∀ o, wr.cell? ⟨w.heap.size, o, none⟩ = (w.alloc _).cell? ⟨w.heap.size, o, none⟩ := fun o => hr.cell (p := ⟨w.heap.size, o, none⟩) (Nat.lt_succ_self _)
          have hB : Below w.heap.size w wr := ((Below.refl _ _).alloc (Nat.le_refl _) _).trans (hr.mono (Nat.le_succ _))
          have hrs : w.heap.size + 1 ≤ wr.heap.size := by have := hr.size; simp at this; omega
          by_cases hjl : j < l.length
          · have hdj : decide ((j : Int) < l.length) = true := by simp; omega
            rcases hl with hl | ⟨b, off, rfl, hcap, hbw, hnodes⟩
            · omega
            · obtain ⟨cs, hcell, hchild⟩ := vals_get w b l off hnodes j hjl
              have h9 : Val3 wr b (off + j * 3) cs := hcell.below hbw hB
              have hcall := ih l[j] cs wr (by omega) (Vl.at_below hB (Nat.le_refl _) _ _ hchild)
              have hstep : (l.take (j + 1)).any (wideN f) = wideN f l[j] := by
                rw [List.take_succ_eq_append_getElem hjl, List.any_append, hno]; simp
              have hany : wideN f l[j] = true → l.any (wideN f) = true := fun h => List.any_eq_true.mpr ⟨l[j], List.getElem_mem hjl, h⟩
              generalize wideN f l[j] = hv at hcall hstep hany
              clear hcell hchild hnodes ih hno
              cases hv with
              | true =>
                have hRt : R = true := by rw [HR.out]; exact hany rfl
                clear HR hany hstep
                subst hRt
                go_wp2_with (first
                  | (refine wpList_load_val rfl _ rfl b (off + j * 3) cs rfl h9 ?_)
                  | (go_at_call 14; refine hcall.mono ?_; rintro e w3 ⟨rfl, hb3⟩)
                  | fail)
                go_ret
                exact ⟨rfl, hB.trans (hb3.mono hB.size)⟩
              | false =>
                clear hany
                have Hstep := Lib.hid hstep
                clear hstep
                go_wp2_with (first
                  | (refine wpList_load_val rfl _ rfl b (off + j * 3) cs rfl h9 ?_)
                  | (go_at_call 14; refine hcall.mono ?_; rintro e w3 ⟨rfl, hb3⟩)
                  | fail)
                go_roundw
                case rel => exact ⟨j + 1, by go_num, by omega, Hstep.out, hr.trans (hb3.mono hrs)⟩
                case measure => simp [intOf]; omega
          · obtain rfl : j = l.length := by omega
            have hdj : decide ((l.length : Int) < l.length) = false := by simp
            rw [List.take_of_length_le (Nat.le_refl _)] at hno
            have hRf : R = false := by rw [HR.out, hno]
            clear hl ih hno hr HR
            subst hRf
            go_wp2_with fail
            go_ret
            exact ⟨rfl, hB⟩
end V
end Go.Proofs.Ytblgjcolmaidlaa
