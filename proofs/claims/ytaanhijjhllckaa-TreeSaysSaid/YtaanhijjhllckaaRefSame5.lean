/- The document's own Same, on nodes. -/
import Derived.Test.YtaanhijjhllckaaRefForm
import Derived.BigQuiet
import Derived.Deep.QuietTactic
namespace Go.Proofs.Ytaanhijjhllckaa
set_option maxRecDepth 100000
open Go.RowKit
theorem eqlN (s t : BitVec 256) (w : World) : (Op.equalIn 10000 33 (BV s.getLsbD) (BV t.getLsbD)).run Try.prog w = .ok (decide (s = t)) w := by
  rw [eql_ref]
  congr 1
  rw [Bool.eq_iff_iff, List.all_eq_true, decide_eq_true_eq]
  constructor
  · intro h
    apply BitVec.eq_of_getLsbD_eq
    intro c hc
    have := h c (List.mem_range.2 hc)
    simpa using this
  · rintro rfl c _
    simp
theorem samesN_len : ∀ l m : List Nd, l.length ≠ m.length → sames l m = false
  | [], [], h => absurd rfl h
  | [], _ :: _, _ => by simp [sames]
  | _ :: _, [], _ => by simp [sames]
  | x :: l, y :: m, h => by
    unfold sames
    rw [samesN_len l m (by simpa using h), Bool.and_false]
theorem samesN_cons (x y : Nd) (l m : List Nd) : sames (x :: l) (y :: m) = (x.same y && sames l m) := by rw [sames]
theorem samesN_nil : sames ([] : List Nd) [] = true := by rw [sames]
theorem sameN_mk (k : Int) (s : BitVec 256) (lo hi n : Int) (l : List Nd) (k' : Int) (s' : BitVec 256) (lo' hi' n' : Int) (l' : List Nd) : (Nd.mk k s lo hi n l).same (.mk k' s' lo' hi' n' l') = ((k == k') && decide (s = s') && (lo == lo') && (hi == hi') && (n == n') && ((l.length : Int) == (l'.length : Int)) && sames l l') := by
  unfold Nd.same
  have h1 : (k == k') = decide (k = k') := rfl
  have h2 : (n == n') = decide (n = n') := rfl
  have h3 : (lo == lo') = decide (lo = lo') := rfl
  have h4 : (hi == hi') = decide (hi = hi') := rfl
  rw [h1, h2, h3, h4]
  by_cases h : l.length = l'.length
  · have : ((l.length : Int) == (l'.length : Int)) = true := by simp [h]
    rw [this, Bool.and_true]
  · have : ((l.length : Int) == (l'.length : Int)) = false := by simp; omega
    rw [this, samesN_len l l' h]
    simp
theorem quiet_load_refnode5 {o : Oper} {a : Act} {C : World → Prop} {K : Act → Prop} (x : Operand) (ho : o.op = .load 36 x) (b off : Nat) (cs : List Value) (hx : a.eval x = .pointer (some ⟨b, off, none⟩))
    (h : ∀ w, C w → Ref261 w b off cs) (hK : K (a.put o.dst (.agg cs.toArray))) : o.quiet Try.prog a C K :=
  ⟨.agg cs.toArray, fun w hw => by
    unfold Oper.quietAt execOp
    simp only [ho, hx, Instr.loadAt, Instr.sureAddr, Sem.run_bind, Sem.run_pure, Result.andThen_ok, loadRefNode (h w hw)]
    exact ⟨rfl, rfl⟩, hK⟩
theorem ref261_later {w w' : World} {b off : Nat} {cs : List Value} (h : Ref261 w b off cs) (hb : Below w.heap.size w w') : Ref261 w' b off cs := ⟨h.1, fun q hq => by
  have h4 := h.2 q hq
  rw [List.getElem?_eq_getElem (by have := h.1; omega)] at h4 ⊢
  rw [hb.cell (p := ⟨b, off + q, none⟩) (World.block_lt_of_cell? w _ h4)]
  exact h4⟩
theorem NCells.later {w w' : World} {b : Nat} {k : Int} {s : BitVec 256} {lo hi n : Int} {v : Value} (h : NCells w b k s lo hi n v) (hb : Below w.heap.size w w') : NCells w' b k s lo hi n v :=
  h.bar (R := w.heap.size) (Bar.of_below hb) (by have := h.lt; omega)
set_option maxHeartbeats 16000000 in
theorem refSameN_any : ∀ (m : Nat) (x y : Nd) (cs ds : List Value) (w : World), x.count ≤ m → Nd.ref w x cs → Nd.ref w y ds →
    Calls Try.prog 17 #[.agg cs.toArray, .agg ds.toArray] w fun e w' => e = .returned (.bool (x.same y)) ∧ Below w.heap.size w w'
  | 0, x, _, _, _, _, h, _, _ => absurd (Nd.count_pos x) (by omega)
  | m + 1, x, y, cs, ds, w, hm, hat, hat2 => by
    obtain ⟨k, s, lo, hi, n, l⟩ := x
    obtain ⟨k2, s2, lo2, hi2, n2, l2⟩ := y
    rw [ref_mk] at hat hat2
    obtain ⟨_, _, _, _, a, cap, rfl, hmax, hl⟩ := hat
    obtain ⟨_, _, _, _, a2, cap2, rfl, hmax2, hl2⟩ := hat2
    have hmx : (l.length : Int) ≤ 9223372036854775807 := by unfold maxLen at hmax; omega
    have hmx2 : (l2.length : Int) ≤ 9223372036854775807 := by unfold maxLen at hmax2; omega
    rw [count_mk] at hm
    obtain ⟨R, hR⟩ : ∃ R, R = (Nd.mk k s lo hi n l).same (.mk k2 s2 lo2 hi2 n2 l2) := ⟨_, rfl⟩
    rw [← hR]
    rw [sameN_mk] at hR
    have HR := Lib.hid hR
    have HL := Lib.hid hl
    have HL2 := Lib.hid hl2
    have Hm := Lib.hid hm
    have Hih := Lib.hid (refSameN_any m)
    obtain ⟨W, hW⟩ : ∃ W, W = (w.alloc (.cells (rdCells k s lo hi n (.slice a l.length cap)).toArray 36)).alloc (.cells (rdCells k2 s2 lo2 hi2 n2 (.slice a2 l2.length cap2)).toArray 36) := ⟨_, rfl⟩
    have hbel : Below w.heap.size w W := by rw [hW]; exact ((Below.refl _ _).alloc (Nat.le_refl _) _).alloc (by simp) _
    have hcc : NCells W w.heap.size k s lo hi n (.slice a l.length cap) := by rw [hW]; exact (ncells_box (World.alloc_heap_new w _)).later ((Below.refl _ _).alloc (Nat.le_refl _) _)
    have hdd : NCells W (w.heap.size + 1) k2 s2 lo2 hi2 n2 (.slice a2 l2.length cap2) := by
      have h := World.alloc_heap_new (w.alloc (.cells (rdCells k s lo hi n (.slice a l.length cap)).toArray 36)) (.cells (rdCells k2 s2 lo2 hi2 n2 (.slice a2 l2.length cap2)).toArray 36)
      rw [World.size_alloc] at h
      rw [hW]
      exact ncells_box h
    have HCC := Lib.hid hcc
    have HDD := Lib.hid hdd
    have HBel := Lib.hid hbel
    generalize hC : rdCells k s lo hi n (.slice a l.length cap) = C at hW
    generalize hD : rdCells k2 s2 lo2 hi2 n2 (.slice a2 l2.length cap2) = D at hW
    clear hC hD hR hl hl2 hm hbel hcc hdd hmax hmax2
    go_enter Try.func17, Try.ntmps17
    go_upto_region 1 with (first
      | (refine Go.Great.wpList_boxTo rfl _ _ rfl _ rfl w.heap.size rfl C.toArray rfl ?_)
      | (refine Go.Great.wpList_boxTo rfl _ _ rfl _ rfl (w.heap.size + 1) (by simp) D.toArray rfl ?_)
      | fail)
    rw [← hW]
    clear hW
    obtain ⟨z, hz⟩ : ∃ z, z = decide (s = s2) := ⟨_, rfl⟩
    have heq := eqlN s s2
    rw [← hz] at heq
    have Hz := Lib.hid hz
    clear hz
    unfold BV at heq
    obtain ⟨F, hF⟩ : ∃ F, F = bc s.getLsbD := ⟨_, rfl⟩
    obtain ⟨G, hG⟩ : ∃ G, G = bc s2.getLsbD := ⟨_, rfl⟩
    rw [← hF, ← hG] at heq
    have HF := Lib.hid hF
    have HG := Lib.hid hG
    clear hF hG
    go_cut [47] from 6 to 47 (fun v wx => v = .bool (!((k == k2) && decide (s = s2) && (lo == lo2) && (hi == hi2) && (n == n2) && ((l.length : Int) == (l2.length : Int)))) ∧ Below W.heap.size W wx)
    case first =>
      have c0 := HCC.out.c0
      have c257 := HCC.out.c257
      have c258 := HCC.out.c258
      have c259 := HCC.out.c259
      have c260 := HCC.out.c260
      have e0 := HDD.out.c0
      have e257 := HDD.out.c257
      have e258 := HDD.out.c258
      have e259 := HDD.out.c259
      have e260 := HDD.out.c260
      clear HR HL HL2 Hm Hih HBel
      by_cases h1 : k = k2
      · have d1 : (k == k2) = true := by simp [h1]
        have d1' : (k != k2) = false := by simp [h1]
        cases z
        · try clear h1
          try clear h3
          try clear h4
          try clear h5
          try clear h6
          go_wp2_with (first
            | go_big_skip
            | (refine wpList_load_refF (by rfl) _ rfl w.heap.size 1 s.getLsbD rfl HCC.out.set F HF.out ?_)
            | (refine wpList_load_refF (by rfl) _ rfl (w.heap.size + 1) 1 s2.getLsbD rfl HDD.out.set G HG.out ?_)
            | fail)
          go_meet
          refine ⟨?_, Below.refl _ _⟩
          rw [Hz.out.symm]
          simp only [d1]
          rfl
        · by_cases h3 : lo = lo2
          · have d3 : (lo == lo2) = true := by simp [h3]
            have d3' : (lo != lo2) = false := by simp [h3]
            by_cases h4 : hi = hi2
            · have d4 : (hi == hi2) = true := by simp [h4]
              have d4' : (hi != hi2) = false := by simp [h4]
              by_cases h5 : n = n2
              · have d5 : (n == n2) = true := by simp [h5]
                have d5' : (n != n2) = false := by simp [h5]
                by_cases h6 : (l.length : Int) = (l2.length : Int)
                · have d6 : ((l.length : Int) == (l2.length : Int)) = true := by simp [h6]
                  have d6' : ((l.length : Int) != (l2.length : Int)) = false := by simp [h6]
                  try clear h1
                  try clear h3
                  try clear h4
                  try clear h5
                  try clear h6
                  go_wp2_with (first
                    | go_big_skip
                    | (refine wpList_load_refF (by rfl) _ rfl w.heap.size 1 s.getLsbD rfl HCC.out.set F HF.out ?_)
                    | (refine wpList_load_refF (by rfl) _ rfl (w.heap.size + 1) 1 s2.getLsbD rfl HDD.out.set G HG.out ?_)
                    | fail)
                  go_meet
                  refine ⟨?_, Below.refl _ _⟩
                  rw [Hz.out.symm]
                  simp only [d1, d3, d4, d5, d6]
                  rfl
                · have d6 : ((l.length : Int) == (l2.length : Int)) = false := by simp [h6]
                  have d6' : ((l.length : Int) != (l2.length : Int)) = true := by simp [h6]
                  try clear h1
                  try clear h3
                  try clear h4
                  try clear h5
                  try clear h6
                  go_wp2_with (first
                    | go_big_skip
                    | (refine wpList_load_refF (by rfl) _ rfl w.heap.size 1 s.getLsbD rfl HCC.out.set F HF.out ?_)
                    | (refine wpList_load_refF (by rfl) _ rfl (w.heap.size + 1) 1 s2.getLsbD rfl HDD.out.set G HG.out ?_)
                    | fail)
                  go_meet
                  refine ⟨?_, Below.refl _ _⟩
                  rw [Hz.out.symm]
                  simp only [d1, d3, d4, d5, d6]
                  rfl
              · have d5 : (n == n2) = false := by simp [h5]
                have d5' : (n != n2) = true := by simp [h5]
                try clear h1
                try clear h3
                try clear h4
                try clear h5
                try clear h6
                go_wp2_with (first
                  | go_big_skip
                  | (refine wpList_load_refF (by rfl) _ rfl w.heap.size 1 s.getLsbD rfl HCC.out.set F HF.out ?_)
                  | (refine wpList_load_refF (by rfl) _ rfl (w.heap.size + 1) 1 s2.getLsbD rfl HDD.out.set G HG.out ?_)
                  | fail)
                go_meet
                refine ⟨?_, Below.refl _ _⟩
                rw [Hz.out.symm]
                simp only [d1, d3, d4, d5]
                rfl
            · have d4 : (hi == hi2) = false := by simp [h4]
              have d4' : (hi != hi2) = true := by simp [h4]
              try clear h1
              try clear h3
              try clear h4
              try clear h5
              try clear h6
              go_wp2_with (first
                | go_big_skip
                | (refine wpList_load_refF (by rfl) _ rfl w.heap.size 1 s.getLsbD rfl HCC.out.set F HF.out ?_)
                | (refine wpList_load_refF (by rfl) _ rfl (w.heap.size + 1) 1 s2.getLsbD rfl HDD.out.set G HG.out ?_)
                | fail)
              go_meet
              refine ⟨?_, Below.refl _ _⟩
              rw [Hz.out.symm]
              simp only [d1, d3, d4]
              rfl
          · have d3 : (lo == lo2) = false := by simp [h3]
            have d3' : (lo != lo2) = true := by simp [h3]
            try clear h1
            try clear h3
            try clear h4
            try clear h5
            try clear h6
            go_wp2_with (first
              | go_big_skip
              | (refine wpList_load_refF (by rfl) _ rfl w.heap.size 1 s.getLsbD rfl HCC.out.set F HF.out ?_)
              | (refine wpList_load_refF (by rfl) _ rfl (w.heap.size + 1) 1 s2.getLsbD rfl HDD.out.set G HG.out ?_)
              | fail)
            go_meet
            refine ⟨?_, Below.refl _ _⟩
            rw [Hz.out.symm]
            simp only [d1, d3]
            rfl
      · have d1 : (k == k2) = false := by simp [h1]
        have d1' : (k != k2) = true := by simp [h1]
        try clear h1
        try clear h3
        try clear h4
        try clear h5
        try clear h6
        go_wp2_with (first
          | go_big_skip
          | (refine wpList_load_refF (by rfl) _ rfl w.heap.size 1 s.getLsbD rfl HCC.out.set F HF.out ?_)
          | (refine wpList_load_refF (by rfl) _ rfl (w.heap.size + 1) 1 s2.getLsbD rfl HDD.out.set G HG.out ?_)
          | fail)
        go_meet
        refine ⟨?_, Below.refl _ _⟩
        rw [Hz.out.symm]
        simp only [d1]
        rfl
    case rest =>
      obtain ⟨rfl, hbc⟩ := hcut
      have HB := Lib.hid (HBel.out.trans (hbc.mono HBel.out.size))
      have HCCc := Lib.hid (HCC.out.later hbc)
      have HDDc := Lib.hid (HDD.out.later hbc)
      clear heq hbc
      obtain ⟨ok, hok⟩ : ∃ ok, ok = ((k == k2) && decide (s = s2) && (lo == lo2) && (hi == hi2) && (n == n2) && ((l.length : Int) == (l2.length : Int))) := ⟨_, rfl⟩
      rw [← hok]
      have HRo := Lib.hid (show R = (ok && sames l l2) by rw [HR.out, hok])
      have hlen : ok = true → l.length = l2.length := fun h => by
        rw [h] at hok
        have h2 := hok.symm
        simp only [Bool.and_eq_true, beq_iff_eq] at h2
        omega
      clear hok HR
      obtain ⟨V, rfl⟩ : ∃ V : World, V = wc := ⟨_, rfl⟩
      cases ok
      · clear hlen
        go_wp2_with fail
        go_ret
        exact ⟨by rw [HRo.out]; rfl, HB.out⟩
      · have Hlen := Lib.hid (hlen rfl)
        clear hlen
        go_wp2_with fail
        go_loopw [5] (fun i wr => ∃ j : Nat, i = .int .i64 j ∧ j ≤ l.length ∧ Hid (sames l l2 = sames (l.drop j) (l2.drop j)) ∧ Hid (Below V.heap.size V wr)) (fun i _ => l.length - (intOf i).toNat)
        case atStart => exact ⟨0, rfl, Nat.zero_le _, rfl, Below.refl _ _⟩
        case round =>
          obtain ⟨j, rfl, hj, hf, hr⟩ := hrel
          have c260 := fun L : Later wr => (HCCc.out.later (hr.out.trans (L.ok.mono hr.out.size))).c260
          have e260 := fun L : Later wr => (HDDc.out.later (hr.out.trans (L.ok.mono hr.out.size))).c260
          have c260' := (HCCc.out.later hr.out).c260
          have hne := Later.nonempty wr
          have hbw := HB.out.trans (hr.out.mono HB.out.size)
          have Hbw := Lib.hid hbw
          clear hbw
          by_cases hjl : j < l.length
          · have d1 : decide ((j : Int) < l.length) = true := by simp; omega
            have hjl2 : j < l2.length := by have := Hlen.out; omega
            have d2 : decide ((j : Int) < l2.length) = true := by simp; omega
            have hx : ∃ b off cs cap', a = some ⟨b, off, none⟩ ∧ l.length ≤ cap' ∧ cap' = cap ∧ Ref261 wr b (off + j * 261) cs ∧ Nd.ref wr l[j] cs := by
              rcases HL.out with hl | ⟨b, off, rfl, hcap, hbw, hnodes⟩
              · omega
              · obtain ⟨cs, hcs, hcell, hchild⟩ := nodesRef_get w b l off hnodes j hjl
                exact ⟨b, off, cs, cap, rfl, hcap, rfl, ⟨hcs, fun q hq => by rw [Hbw.out.cell (p := ⟨b, off + j * 261 + q, none⟩) hbw]; exact hcell q hq⟩, Nd.ref_below Hbw.out hchild⟩
            have hy : ∃ b off cs cap', a2 = some ⟨b, off, none⟩ ∧ l2.length ≤ cap' ∧ cap' = cap2 ∧ Ref261 wr b (off + j * 261) cs ∧ Nd.ref wr l2[j] cs := by
              rcases HL2.out with hl | ⟨b, off, rfl, hcap, hbw, hnodes⟩
              · omega
              · obtain ⟨cs, hcs, hcell, hchild⟩ := nodesRef_get w b l2 off hnodes j hjl2
                exact ⟨b, off, cs, cap2, rfl, hcap, rfl, ⟨hcs, fun q hq => by rw [Hbw.out.cell (p := ⟨b, off + j * 261 + q, none⟩) hbw]; exact hcell q hq⟩, Nd.ref_below Hbw.out hchild⟩
            obtain ⟨b, off, cs, cap', rfl, hcap, rfl, h259, hchild⟩ := hx
            obtain ⟨b2, off2, ds, cap2', rfl, hcap2, rfl, g259, hchild2⟩ := hy
            have hcnt : l[j].count ≤ m := by
              have h1 := counts_mem (List.getElem_mem hjl)
              have := Hm.out
              omega
            have hcall := fun L : Later wr => Hih.out l[j] l2[j] cs ds L.val hcnt (Nd.ref_below L.ok hchild) (Nd.ref_below L.ok hchild2)
            have hstep : sames (l.drop j) (l2.drop j) = (l[j].same l2[j] && sames (l.drop (j + 1)) (l2.drop (j + 1))) := by rw [List.drop_eq_getElem_cons hjl, List.drop_eq_getElem_cons hjl2, samesN_cons]
            generalize hgf : l[j].same l2[j] = fj at hcall hstep
            have Hstep := Lib.hid hstep
            have Hcall := Lib.hid hcall
            have H1 := Lib.hid h259
            have H2 := Lib.hid g259
            clear hcnt hchild hchild2 hstep hgf hcall h259 g259
            cases fj
            · go_wp2_with fail
              refine wp_region_later (W0 := wr) (Below.refl _ _) (by kernel_rfl) (by as_aux_lemma => kernel_rfl) ?_
              repeat (first
                | (go_big_quiet_want; refine quiet_load_refnode5 _ rfl b (off + j * 261) cs rfl (fun w' hw' => by obtain ⟨L, rfl⟩ := hw'; exact ref261_later H1.out L.ok) ?_; go_big_quiet_on; simp only [Act.put, List.setIfInBounds_toArray, List.set_cons_zero, List.set_cons_succ])
                | (go_big_quiet_want; refine quiet_load_refnode5 _ rfl b2 (off2 + j * 261) ds rfl (fun w' hw' => by obtain ⟨L, rfl⟩ := hw'; exact ref261_later H2.out L.ok) ?_; go_big_quiet_on; simp only [Act.put, List.setIfInBounds_toArray, List.set_cons_zero, List.set_cons_succ])
                | go_big_quiet_step (exact Later.calls (Hcall.out _)))
              refine wpQuiet_nil ?_
              intro w' hw'
              obtain ⟨L', rfl⟩ := hw'
              go_wp2_with fail
              go_ret
              exact ⟨by rw [HRo.out, hf.out, Hstep.out]; rfl, Hbw.out.trans (L'.ok.mono Hbw.out.size)⟩
            · go_wp2_with fail
              refine wp_region_later (W0 := wr) (Below.refl _ _) (by kernel_rfl) (by as_aux_lemma => kernel_rfl) ?_
              repeat (first
                | (go_big_quiet_want; refine quiet_load_refnode5 _ rfl b (off + j * 261) cs rfl (fun w' hw' => by obtain ⟨L, rfl⟩ := hw'; exact ref261_later H1.out L.ok) ?_; go_big_quiet_on; simp only [Act.put, List.setIfInBounds_toArray, List.set_cons_zero, List.set_cons_succ])
                | (go_big_quiet_want; refine quiet_load_refnode5 _ rfl b2 (off2 + j * 261) ds rfl (fun w' hw' => by obtain ⟨L, rfl⟩ := hw'; exact ref261_later H2.out L.ok) ?_; go_big_quiet_on; simp only [Act.put, List.setIfInBounds_toArray, List.set_cons_zero, List.set_cons_succ])
                | go_big_quiet_step (exact Later.calls (Hcall.out _)))
              refine wpQuiet_nil ?_
              intro w' hw'
              obtain ⟨L', rfl⟩ := hw'
              go_wp2_with fail
              go_roundw
              case rel =>
                exact ⟨j + 1, by go_num, by omega, by show _ = _; rw [hf.out, Hstep.out]; rfl, hr.out.trans (L'.ok.mono hr.out.size)⟩
              case measure => simp [intOf]; omega
          · obtain rfl : j = l.length := by omega
            have d1 : decide (((l.length : Nat) : Int) < l.length) = false := by simp
            have hl2 : l2.drop l.length = [] := by rw [Hlen.out, List.drop_length]
            have Hl2 := Lib.hid hl2
            clear hl2
            go_wp2_with fail
            go_ret
            exact ⟨by rw [HRo.out, hf.out, List.drop_length, Hl2.out, samesN_nil]; rfl, Hbw.out⟩
end Go.Proofs.Ytaanhijjhllckaa
