/- tree.Same, walked. -/
import Derived.Test.YtaanhijjhllckaaTreeOps
import Derived.Test.YtaanhijjhllckaaLater
namespace Go.Proofs.Ytaanhijjhllckaa
set_option maxRecDepth 100000
open Go.RowKit
theorem same_mk (k k' : Int) (s s' : BitVec 256) (lo hi n lo' hi' n' : Int) (l l' : List Nd) : (Nd.mk k s lo hi n l).same (.mk k' s' lo' hi' n' l') = (decide (k = k') && decide (s = s') && decide (lo = lo') && decide (hi = hi') && decide (n = n') && sames l l') := by rw [Nd.same]
theorem sames_cons (x y : Nd) (l m : List Nd) : sames (x :: l) (y :: m) = (x.same y && sames l m) := by rw [sames]
theorem sames_nil : sames [] [] = true := by rw [sames]
theorem sames_length : ∀ l m : List Nd, sames l m = true → l.length = m.length
  | [], [], _ => rfl
  | [], _ :: _, h => by simp [sames] at h
  | _ :: _, [], h => by simp [sames] at h
  | x :: l, y :: m, h => by
    rw [sames_cons, Bool.and_eq_true] at h
    rw [List.length_cons, List.length_cons, sames_length l m h.2]
theorem sames_append : ∀ (l m l2 m2 : List Nd), l.length = m.length → sames (l ++ l2) (m ++ m2) = (sames l m && sames l2 m2)
  | [], [], l2, m2, _ => by rw [sames_nil, Bool.true_and]; rfl
  | [], _ :: _, _, _, h => by simp at h
  | _ :: _, [], _, _, h => by simp at h
  | x :: l, y :: m, l2, m2, h => by
    rw [List.cons_append, List.cons_append, sames_cons, sames_cons, sames_append l m l2 m2 (by simpa using h), Bool.and_assoc]
theorem sames_take_succ (l m : List Nd) (j : Nat) (hl : j < l.length) (hm : j < m.length) : sames (l.take (j + 1)) (m.take (j + 1)) = (sames (l.take j) (m.take j) && l[j].same m[j]) := by
  rw [List.take_succ_eq_append_getElem hl, List.take_succ_eq_append_getElem hm, sames_append _ _ _ _ (by simp; omega), sames_cons, sames_nil, Bool.and_true]
theorem sames_part (l m : List Nd) (j : Nat) (hlen : l.length = m.length) (h : sames (l.take j) (m.take j) = false) : sames l m = false := by
  have e := sames_append (l.take j) (m.take j) (l.drop j) (m.drop j) (by simp; omega)
  rw [List.take_append_drop, List.take_append_drop, h, Bool.false_and] at e
  exact e
theorem quiet_load_node {o : Oper} {a : Act} {C : World → Prop} {K : Act → Prop} (x : Operand) (ho : o.op = .load 27 x) (b off : Nat) (cs : List Value) (hx : a.eval x = .pointer (some ⟨b, off, none⟩))
    (h : ∀ w, C w → Node9 w b off cs) (hK : K (a.put o.dst (.agg cs.toArray))) : o.quiet Try.prog a C K :=
  ⟨.agg cs.toArray, fun w hw => by
    unfold Oper.quietAt execOp
    simp only [ho, hx, Instr.loadAt, Instr.sureAddr, Sem.run_bind, Sem.run_pure, Result.andThen_ok, loadNode (h w hw)]
    exact ⟨rfl, rfl⟩, hK⟩
theorem two_below (w : World) (o o' : Obj) : Below w.heap.size w ((w.alloc o).alloc o') := ((Below.refl _ _).alloc (Nat.le_refl _) _).alloc (by simp) _
theorem at_later {w wr : World} {x : Nd} {cs : List Value} (hB : Below w.heap.size w wr) (L : Later wr) (h : Nd.at w x cs) : Nd.at L.val x cs :=
  Nd.at_below (hB.trans (L.ok.mono hB.size)) (Nat.le_refl _) _ _ h
set_option maxRecDepth 100000 in
set_option maxHeartbeats 4000000 in
theorem same_any : ∀ (m : Nat) (x y : Nd) (cs ds : List Value) (w : World), x.count ≤ m → Nd.at w x cs → Nd.at w y ds →
    Calls Try.prog 16 #[.agg cs.toArray, .agg ds.toArray] w fun e w' => e = .returned (.bool (x.same y)) ∧ Below w.heap.size w w' := by
  intro m
  induction m with
  | zero => intro x y cs ds w hm; have := Nd.count_pos x; omega
  | succ m ih =>
    intro x y cs ds w hm hx hy
    obtain ⟨k, s, lo, hi, n, l⟩ := x
    obtain ⟨k', s', lo', hi', n', l'⟩ := y
    rw [at_mk] at hx hy
    obtain ⟨_, _, _, _, a, cap, rfl, hmax, hl⟩ := hx
    obtain ⟨_, _, _, _, a', cap', rfl, hmax', hl'⟩ := hy
    rw [same_mk]
    have hs := eql_set s s'
    have h6 : l.length ≠ l'.length → sames l l' = false := fun h => by
      cases hh : sames l l' with
      | false => rfl
      | true => exact absurd (sames_length l l' hh) h
    have e1 : (k == k') = decide (k = k') := by rw [Bool.eq_iff_iff]; simp
    have e3 : (lo == lo') = decide (lo = lo') := by rw [Bool.eq_iff_iff]; simp
    have e4 : (hi == hi') = decide (hi = hi') := by rw [Bool.eq_iff_iff]; simp
    have e5 : (n == n') = decide (n = n') := by rw [Bool.eq_iff_iff]; simp
    have e6 : ((l.length : Int) == (l'.length : Int)) = decide (l.length = l'.length) := by rw [Bool.eq_iff_iff]; simp; omega
    by_cases hlen : l.length = l'.length
    rotate_left 1
    · rw [h6 hlen, Bool.and_false]
      rw [decide_eq_false hlen] at e6
      have n6 : ((l.length : Int) != (l'.length : Int)) = true := by simp [bne, e6]
      clear h6 hlen ih hl hl' hm
      generalize decide (k = k') = b1 at *
      generalize decide (s = s') = b2 at *
      generalize decide (lo = lo') = b3 at *
      generalize decide (hi = hi') = b4 at *
      generalize decide (n = n') = b5 at *
      have n1 : (k != k') = !b1 := by simp [bne, e1]
      have n3 : (lo != lo') = !b3 := by simp [bne, e3]
      have n4 : (hi != hi') = !b4 := by simp [bne, e4]
      have n5 : (n != n') = !b5 := by simp [bne, e5]
      cases b1 <;> cases b2 <;> cases b3 <;> cases b4 <;> cases b5 <;> (
        go_enter Try.func16, Try.ntmps16
        go_wp2_with fail
        go_ret
        exact ⟨rfl, two_below _ _ _⟩)
    · rw [← hlen] at hmax' hl' e6 ⊢
      rw [decide_eq_true rfl] at e6
      have n6 : ((l.length : Int) != (l.length : Int)) = false := by simp [bne]
      have hmx : l.length ≤ 9223372036854775807 := Nat.le_trans hmax (by decide)
      clear h6
      have hcnt : counts l ≤ m := by rw [count_mk] at hm; omega
      clear hm
      generalize decide (k = k') = b1 at *
      generalize decide (s = s') = b2 at *
      generalize decide (lo = lo') = b3 at *
      generalize decide (hi = hi') = b4 at *
      generalize decide (n = n') = b5 at *
      have n1 : (k != k') = !b1 := by simp [bne, e1]
      have n3 : (lo != lo') = !b3 := by simp [bne, e3]
      have n4 : (hi != hi') = !b4 := by simp [bne, e4]
      have n5 : (n != n') = !b5 := by simp [bne, e5]
      have Hlen := Lib.hid hlen
      clear hlen
      obtain ⟨R, hR⟩ : ∃ R, R = sames l l' := ⟨_, rfl⟩
      rw [← hR]
      have HR := Lib.hid hR
      clear hR
      by_cases hb : (b1 && b2 && b3 && b4 && b5) = true
      rotate_left 1
      · clear ih hl hl' HR
        cases b1 <;> cases b2 <;> cases b3 <;> cases b4 <;> cases b5 <;> first | (exact absurd rfl hb) | (
          clear hb
          go_enter Try.func16, Try.ntmps16
          go_wp2_with fail
          go_ret
          exact ⟨rfl, two_below _ _ _⟩)
      · simp only [Bool.and_eq_true] at hb
        obtain ⟨⟨⟨⟨rfl, rfl⟩, rfl⟩, rfl⟩, rfl⟩ := hb
        go_enter Try.func16, Try.ntmps16
        go_wp2_with fail
        go_loopw [51] (fun i wr => ∃ j : Nat, i = .int .i64 j ∧ j ≤ l.length ∧ Hid (sames (l.take j) (l'.take j) = true) ∧ Below (w.heap.size + 1 + 1) ((w.alloc (.cells #[.int .i64 k, .int .u64 (word s 0), .int .u64 (word s 1), .int .u64 (word s 2), .int .u64 (word s 3), .int .i64 lo, .int .i64 hi, .int .i64 n, .slice a l.length cap] 27)).alloc (.cells #[.int .i64 k', .int .u64 (word s' 0), .int .u64 (word s' 1), .int .u64 (word s' 2), .int .u64 (word s' 3), .int .i64 lo', .int .i64 hi', .int .i64 n', .slice a' l.length cap'] 27)) wr) (fun i _ => l.length - (intOf i).toNat)
        case atStart => exact ⟨0, rfl, Nat.zero_le _, by show _ = _; rw [List.take_zero, List.take_zero, sames_nil], Below.refl _ _⟩
        case round =>
          obtain ⟨j, rfl, hjl, hno, hr⟩ := hrel
          have cr0 : ∀ o, wr.cell? ⟨w.heap.size, o, none⟩ = ((w.alloc _).alloc _).cell? ⟨w.heap.size, o, none⟩ := fun o => hr.cell (p := ⟨w.heap.size, o, none⟩) (by show w.heap.size < w.heap.size + 1 + 1; omega)
          have cr1 : ∀ o, wr.cell? ⟨w.heap.size + 1, o, none⟩ = ((w.alloc _).alloc _).cell? ⟨w.heap.size + 1, o, none⟩ := fun o => hr.cell (p := ⟨w.heap.size + 1, o, none⟩) (by show w.heap.size + 1 < w.heap.size + 1 + 1; omega)
          have hB : Below w.heap.size w wr := (two_below _ _ _).trans (hr.mono (by omega))
          by_cases hjn : j < l.length
          · have hdj : decide ((j : Int) < l.length) = true := by simp; omega
            rcases hl with hl | ⟨b, off, rfl, hcap, hbw, hnodes⟩
            · omega
            rcases hl' with hl' | ⟨b', off', rfl, hcap', hbw', hnodes'⟩
            · omega
            have hjm : j < l'.length := by have := Hlen.out; omega
            obtain ⟨cs, hcs, hcell, hchild⟩ := nodes_get w b l off hnodes j hjn
            obtain ⟨ds, hds, hcell', hchild'⟩ := nodes_get w b' l' off' hnodes' j hjm
            have hbr : b < wr.heap.size := Nat.lt_of_lt_of_le hbw hB.size
            have hbr' : b' < wr.heap.size := Nat.lt_of_lt_of_le hbw' hB.size
            have h9 : ∀ w', (∃ L : Later wr, w' = L.val) → Node9 w' b (off + j * 9) cs := fun w' hw' => by
              obtain ⟨L, rfl⟩ := hw'
              exact ⟨hcs, fun q hq => by rw [L.ok.cell (p := ⟨b, off + j * 9 + q, none⟩) hbr, hB.cell (p := ⟨b, off + j * 9 + q, none⟩) hbw]; exact hcell q hq⟩
            have h9' : ∀ w', (∃ L : Later wr, w' = L.val) → Node9 w' b' (off' + j * 9) ds := fun w' hw' => by
              obtain ⟨L, rfl⟩ := hw'
              exact ⟨hds, fun q hq => by rw [L.ok.cell (p := ⟨b', off' + j * 9 + q, none⟩) hbr', hB.cell (p := ⟨b', off' + j * 9 + q, none⟩) hbw']; exact hcell' q hq⟩
            have cl0 : ∀ (L : Later wr) o, L.val.cell? ⟨w.heap.size, o, none⟩ = wr.cell? ⟨w.heap.size, o, none⟩ := fun L o => L.cell ⟨w.heap.size, o, none⟩ (by have := hr.size; simp at this; show w.heap.size < _; omega)
            have cl1 : ∀ (L : Later wr) o, L.val.cell? ⟨w.heap.size + 1, o, none⟩ = wr.cell? ⟨w.heap.size + 1, o, none⟩ := fun L o => L.cell ⟨w.heap.size + 1, o, none⟩ (by have := hr.size; simp at this; show w.heap.size + 1 < _; omega)
            have hcm : l[j].count ≤ m := Nat.le_trans (counts_mem (List.getElem_mem hjn)) hcnt
            have hcall := fun L : Later wr => ih l[j] l'[j] cs ds L.val hcm (at_later hB L hchild) (at_later hB L hchild')
            have hstep := sames_take_succ l l' j hjn hjm
            rw [hno.out, Bool.true_and] at hstep
            have hpart := sames_part l l' (j + 1) Hlen.out
            rw [hstep] at hpart
            generalize l[j].same l'[j] = v at hcall hstep hpart
            have Hstep := Lib.hid hstep
            have Hpart := Lib.hid hpart
            have hne := Later.nonempty wr
            clear hstep hpart hnodes hnodes' hcell hcell' hchild hchild' ih hcnt hno hcm
            go_wp2_with fail
            refine wp_region_later (W0 := wr) (Below.refl _ _) (by kernel_rfl) (by as_aux_lemma => kernel_rfl) ?_
            iterate 4 (go_big_quiet_step (fail))
            go_big_quiet_want
            refine quiet_load_node _ rfl b (off + j * 9) cs rfl h9 ?_
            go_big_quiet_on
            simp only [Act.put, List.setIfInBounds_toArray, List.set_cons_zero, List.set_cons_succ]
            iterate 4 (go_big_quiet_step (fail))
            go_big_quiet_want
            refine quiet_load_node _ rfl b' (off' + j * 9) ds rfl h9' ?_
            go_big_quiet_on
            simp only [Act.put, List.setIfInBounds_toArray, List.set_cons_zero, List.set_cons_succ]
            iterate 2 (go_big_quiet_step (exact Later.calls (hcall _)))
            refine wpQuiet_nil ?_
            intro w' hw'
            obtain ⟨L', rfl⟩ := hw'
            have hr5 := hr.trans (L'.ok.mono (by have := hr.size; simp at this; exact this))
            have hB5 := hB.trans (L'.ok.mono hB.size)
            clear hcall h9 h9' cl0 cl1
            cases v with
            | true =>
              go_wp2_with fail
              go_roundw
              case rel => exact ⟨j + 1, by go_num, Nat.succ_le_of_lt hjn, Hstep.out, hr5⟩
              case measure => simp [intOf]; omega
            | false =>
              have hRf : R = false := by rw [HR.out]; exact Hpart.out rfl
              clear HR
              subst hRf
              go_wp2_with fail
              go_ret
              exact ⟨rfl, hB5⟩
          · obtain rfl : j = l.length := by omega
            have hdj : decide ((l.length : Int) < l.length) = false := by simp
            have hRt : R = true := by
              have h := hno.out
              rw [List.take_length, Hlen.out, List.take_length] at h
              rw [HR.out, h]
            clear hl hl' ih HR
            subst hRt
            go_wp2_with fail
            go_ret
            exact ⟨rfl, hB⟩
end Go.Proofs.Ytaanhijjhllckaa
