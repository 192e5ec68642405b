/- tree.Depth and tree.Same, walked. -/
import Derived.Test.YtlgpbgcheeaalaaGreatDoorTreeKinds
namespace Go.Proofs.YtlgpbgcheeaalaaGreatDoor
set_option maxRecDepth 100000
open Go.RowKit
theorem deeps_cons (x : Nd) (l : List Nd) : deeps (x :: l) = max x.deep (deeps l) := by rw [deeps]
theorem deeps_nil : deeps [] = 0 := by rw [deeps]
theorem deeps_append (l m : List Nd) : deeps (l ++ m) = max (deeps l) (deeps m) := by
  induction l with
  | nil => rw [deeps_nil, List.nil_append]; omega
  | cons x l ih => rw [List.cons_append, deeps_cons, deeps_cons, ih]; omega
theorem deeps_take_succ (l : List Nd) (j : Nat) (hj : j < l.length) : deeps (l.take (j + 1)) = max (deeps (l.take j)) l[j].deep := by
  rw [List.take_succ_eq_append_getElem hj, deeps_append, deeps_cons, deeps_nil]; omega
theorem deeps_take_le (l : List Nd) (j : Nat) : deeps (l.take j) ≤ deeps l := by
  have h := deeps_append (l.take j) (l.drop j)
  rw [List.take_append_drop] at h
  omega
theorem dnum_stop {d t D f : Nat} (hd : d = min (1 + t) (f + 1)) (h : d = f + 1) (ht : t ≤ D) : f + 1 = min (1 + D) (f + 1) := by omega
theorem dnum_next {d t g c t' : Nat} (hd : d = min (1 + t) (g + 1 + 1)) (hne : ¬ d = g + 1 + 1) (ht : t' = max t c) : max d (1 + min c (g + 1)) = min (1 + t') (g + 1 + 1) := by omega
theorem dnum_le {d t f : Nat} (hd : d = min (1 + t) (f + 1)) : 1 ≤ d ∧ d ≤ f + 1 := by omega
theorem dnum_zero {d t : Nat} (hd : d = min (1 + t) (0 + 1)) : d = 0 + 1 := by omega
set_option maxRecDepth 100000 in
set_option maxHeartbeats 2000000 in
theorem depth_any : ∀ (f : Nat) (x : Nd) (cs : List Value) (w : World), f < 100 → Nd.at w x cs →
    Calls Tryz.prog 106 #[.agg cs.toArray, .int .i64 ((f + 1 : Nat) : Int)] w fun e w' => e = .returned (.int .i64 ((min x.deep (f + 1) : Nat) : Int)) ∧ Below w.heap.size w w' := by
  intro f
  induction f using Nat.strongRecOn with
  | _ f ih =>
    intro x cs w hf hat
    obtain ⟨s, lo, hi, n, a, cap, hx, hcs⟩ := at_cells hat
    rw [hx] at hat
    generalize hls : x.nodes = l at hat hcs hx
    generalize x.kind = k at hat hcs hx
    rw [at_mk] at hat
    obtain ⟨_, _, _, _, a', cap', hcs', hmax, hl⟩ := hat
    rw [hcs] at hcs'
    have hsl : Value.slice a l.length cap = .slice a' l.length cap' := by simpa using hcs'
    cases hsl
    have hxd : x.deep = 1 + deeps l := by rw [hx, deep_mk]
    have hmx : l.length ≤ 9223372036854775807 := Nat.le_trans hmax (by decide)
    rw [hxd]
    clear hxd hcs' hx hls
    subst hcs
    have hsub : ((f + 1 : Nat) : Int) - 1 = (f : Int) := by omega
    generalize hF : ((f + 1 : Nat) : Int) = F at hsub ⊢
    have HF := Lib.hid hF
    have hFb : F ≤ 1000 := by omega
    have hF0 : 1 ≤ F := by omega
    clear hF
    go_enter Tryz.func106, Tryz.ntmps106
    go_wp2_with fail
    go_loopw [5, 11] (fun v i wr => ∃ (j d : Nat), v = .int .i64 d ∧ i = .int .i64 j ∧ j ≤ l.length ∧ Hid (d = min (1 + deeps (l.take j)) (f + 1)) ∧ Below w.heap.size w wr) (fun _ i _ => l.length - (intOf i).toNat)
    case atStart =>
      refine ⟨0, 1, rfl, rfl, Nat.zero_le _, ?_, (Below.refl _ _).alloc (Nat.le_refl _) _⟩
      show _ = _
      rw [List.take_zero, deeps_nil]; omega
    case round =>
      obtain ⟨j, d, rfl, rfl, hjl, hd, hB⟩ := hrel
      by_cases hjn : j < l.length
      · have hdj : decide ((j : Int) < l.length) = true := by simp; omega
        rcases hl with hl | ⟨b, off, rfl, hcap, hbw, hnodes⟩
        · omega
        obtain ⟨cs, hcs, hcell, hchild⟩ := nodes_get w b l off hnodes j hjn
        have h9 : Node9 wr b (off + j * 9) cs := ⟨hcs, fun q hq => by rw [hB.cell (p := ⟨b, off + j * 9 + q, none⟩) hbw]; exact hcell q hq⟩
        obtain ⟨s', lo', hi', n', a2, cap2, _, hcs'⟩ := at_cells hchild
        have hB2 : ∀ o, Below w.heap.size w (wr.alloc o) := fun o => hB.alloc hB.size o
        have hcall := fun (g : Nat) (hg : f = g + 1) o => ih g (by omega) l[j] cs (wr.alloc o) (by omega) (Nd.at_below (hB2 o) (Nat.le_refl _) _ _ hchild)
        have hstep := deeps_take_succ l j hjn
        have hle := deeps_take_le l j
        generalize l[j].kind = k' at hcs'
        generalize l[j].nodes.length = len' at hcs'
        generalize hch : l[j].deep = ch at hcall hstep
        subst hcs'
        have Hstep := Lib.hid hstep
        have Hle := Lib.hid hle
        clear hch hstep hle hchild hcell hnodes ih
        by_cases hdm : d = f + 1
        · have e1 : ((d : Int) == F) = true := by rw [← HF.out, hdm]; simp
          have Hdm := Lib.hid hdm
          clear hdm hcall
          go_wp2_with (first | (refine wpList_load_node rfl _ rfl b (off + j * 9) _ rfl h9 ?_) | fail)
          go_ret
          refine ⟨?_, hB2 _⟩
          rw [← dnum_stop hd.out Hdm.out Hle.out, ← Hdm.out]
          rfl
        · obtain ⟨g, hg⟩ : ∃ g, f = g + 1 := by
            cases f with
            | zero => exact absurd (dnum_zero hd.out) hdm
            | succ g => exact ⟨g, rfl⟩
          have hcall := hcall g hg
          rw [← hg] at hcall
          have Hg := Lib.hid hg
          clear hg
          have e1 : ((d : Int) == F) = false := by rw [← HF.out]; simp; omega
          have Hdm := Lib.hid hdm
          have hd1 := dnum_le hd.out
          have hm1 : ((min ch f : Nat) : Int) ≤ 1000 := by omega
          have hm0 : 0 ≤ ((min ch f : Nat) : Int) := by omega
          generalize hM : ((min ch f : Nat) : Int) = M at hm1 hm0 hcall
          have HM := Lib.hid hM
          have hd2 : (d : Int) ≤ 1000 := by omega
          clear hM hd1 hdm
          go_wp2_with (first | (refine wpList_load_node rfl _ rfl b (off + j * 9) _ rfl h9 ?_) | (go_at_call 106; refine (hcall _).mono ?_; clear hcall; rintro e w3 ⟨rfl, hb3⟩) | fail)
          go_roundw
          case rel =>
            refine ⟨j + 1, max d (1 + min ch f), ?_, by go_num, Nat.succ_le_of_lt hjn, ?_, (hB2 _).trans (hb3.mono (by have := hB.size; simp; omega))⟩
            · have h := HM.out
              refine congrArg (Value.int .i64) ?_
              split <;> omega
            · have h1 := hd.out
              have h2 := Hdm.out
              have h3 := Hg.out
              subst h3
              exact dnum_next h1 h2 Hstep.out
          case measure => simp [intOf]; omega
      · obtain rfl : j = l.length := by omega
        have hdj : decide ((l.length : Int) < l.length) = false := by simp
        clear hl ih
        go_wp2_with fail
        go_ret
        refine ⟨?_, hB⟩
        have h := hd.out
        rw [List.take_length] at h
        rw [h]; rfl
set_option maxHeartbeats 1000000 in
theorem Depth_any {x : Nd} {cs : List Value} {w : World} (hat : Nd.at w x cs) :
    Calls Tryz.prog 87 #[.agg cs.toArray] w fun e w' => e = .returned (.int .i64 (depthOfN x : Int)) ∧ Below w.heap.size w w' := by
  have hc := fun o => depth_any 64 x cs (w.alloc o) (by decide) (Nd.at_below ((Below.refl w.heap.size w).alloc (Nat.le_refl _) o) (Nat.le_refl _) _ _ hat)
  obtain ⟨s, lo, hi, n, a, cap, _, rfl⟩ := at_cells hat
  clear hat
  unfold depthOfN
  generalize min x.deep 65 = D at *
  generalize x.kind = k at *
  generalize x.nodes.length = len at *
  go_enter Tryz.func87, Tryz.ntmps87
  go_wp2_with (go_at_call 106; refine (hc _).mono ?_; clear hc; rintro e w2 ⟨rfl, hb⟩)
  go_ret
  exact ⟨rfl, box_below hb⟩
end Go.Proofs.YtlgpbgcheeaalaaGreatDoor
