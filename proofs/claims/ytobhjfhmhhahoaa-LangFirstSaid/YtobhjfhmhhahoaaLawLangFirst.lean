/- The walk of law 9's LangFirst. -/
import Derived.Test.YtobhjfhmhhahoaaLangAwake
import Derived.Test.YtobhjfhmhhahoaaCoreBig
import Derived.Test.YtobhjfhmhhahoaaCoreParts
namespace Go.Proofs.Ytobhjfhmhhahoaa
open K
set_option maxRecDepth 100000
open Go.RowKit
set_option maxHeartbeats 8000000 in
theorem langFirst_walk (x : Cr) (cs : List Value) (a : Option Addr) (n cap : Nat) (l : List Nat) (w : World) (hx : Cr.at w x cs) (hl : BytesAt w a n cap l) :
    Calls Try.prog 5 #[.agg cs.toArray, .slice a n cap] w fun e w' => e = .returned (.bool true) ∧ Below w.heap.size w w' := by
  have atx := fun (w' : World) (hb : Below w.heap.size w w') => Cr.at_below hb (Nat.le_refl _) _ _ hx
  have atl := fun (w' : World) (hb : Below w.heap.size w w') => bytes_keep hl hb
  have hbig := fun (w' : World) (hb : Below w.heap.size w w') => big_any 60 x cs w' (by decide) (atx w' hb)
  have hsize := fun (w' : World) (hb : Below w.heap.size w w') => K.size_walk (atx w' hb)
  have hgood := fun (w' : World) (hb : Below w.heap.size w w') => K.good_walk (atx w' hb)
  have hn := hl.1
  have hlt := hl.2.1
  obtain ⟨kx, sx, nx, ax, lenx, capx, rfl⟩ := K.at_lit hx
  obtain ⟨W, hW⟩ : ∃ W, W = w.alloc (.cells #[.int .i64 kx, .int .u64 (word sx 0), .int .u64 (word sx 1), .int .u64 (word sx 2), .int .u64 (word sx 3), .int .i64 nx, .slice ax lenx capx] 28) := ⟨_, rfl⟩
  have hal : Below w.heap.size w W := by rw [hW]; exact alloc_below w _
  have hcx : CoreIn W w.heap.size #[.int .i64 kx, .int .u64 (word sx 0), .int .u64 (word sx 1), .int .u64 (word sx 2), .int .u64 (word sx 3), .int .i64 nx, .slice ax lenx capx] := by rw [hW]; exact World.alloc_heap_new w _
  have h7x : ∀ w' : World, Below W.heap.size W w' → Core7 w' w.heap.size 0 [.int .i64 kx, .int .u64 (word sx 0), .int .u64 (word sx 1), .int .u64 (word sx 2), .int .u64 (word sx 3), .int .i64 nx, .slice ax lenx capx] := fun w' hb => core7_in (core_later hb hcx) rfl
  have hup : ∀ w' : World, Below W.heap.size W w' → Below w.heap.size w w' := fun w' hb => hal.trans (hb.mono hal.size)
  have hfirst := fun (w' : World) (hb : Below w.heap.size w w') => lang_first (atx w' hb)
  have hends := fun (w' : World) (hb : Below w.heap.size w w') => (lang_ends (atx w' hb) (atl w' hb) 0).mono fun _ _ h => natRow_at h
  have hnull := fun (w' : World) (hb : Below w.heap.size w w') => lang_null (atx w' hb)
  have hfacts : goodC x = true → (∀ j ∈ endsC x l 0, 0 < j → 0 < n ∧ (firstC x).getLsbD (l.getD 0 0) = true) ∧ (0 ∈ endsC x l 0 → nullC x = true) := fun hg => by
    refine ⟨fun j hj h0 => ?_, fun h => ?_⟩
    · obtain ⟨h1, h2⟩ := first_has hg hlt hj h0
      exact ⟨by omega, by unfold firstC; rw [if_pos hg]; exact h2⟩
    · unfold nullC; rw [hg, ends_null h]; rfl
  have H7x := Lib.hid h7x
  have Hal := Lib.hid hal
  have Hup := Lib.hid hup
  have Hbig := Lib.hid hbig
  have Hsize := Lib.hid hsize
  have Hgood := Lib.hid hgood
  have Hfirst := Lib.hid hfirst
  have Hends := Lib.hid hends
  have Hnull := Lib.hid hnull
  have Hatl := Lib.hid atl
  have Hfacts := Lib.hid hfacts
  have Hb0 := Lib.hid (Below.refl W.heap.size W)
  clear atx atl hbig hsize hgood hfirst hends hnull hn hlt hal hcx h7x hup hfacts hx hl
  go_enter Try.func5, Try.ntmps5
  go_upto_region 1 with fail
  rw [← hW]
  clear hW
  go_wp2_with fail
  refine (awake9_walk _).mono ?_
  rintro e w1 ⟨rfl, hb'⟩
  have Hb1 := Lib.hid (Hb0.out.trans (hb'.mono Hb0.out.size))
  clear hb'
  go_wp2_with (first | (refine K.wpList_load_node_want rfl _ rfl w.heap.size 0 _ rfl (H7x.out _ Hb1.out) ?_) | fail)
  refine (Hbig.out _ (Hup.out _ Hb1.out)).mono ?_
  rintro e w2 ⟨rfl, hb'⟩
  have Hb2 := Lib.hid (Hb1.out.trans (hb'.mono Hb1.out.size))
  clear hb'
  generalize bigN 60 x = bx at *
  cases bx
  case true =>
    go_wp2_with fail
    go_ret
    exact ⟨rfl, Hup.out _ Hb2.out⟩
  go_wp2_with (first | (refine K.wpList_load_node_want rfl _ rfl w.heap.size 0 _ rfl (H7x.out _ Hb2.out) ?_) | fail)
  refine (Hsize.out _ (Hup.out _ Hb2.out)).mono ?_
  rintro e w3 ⟨rfl, hb'⟩
  have Hb3 := Lib.hid (Hb2.out.trans (hb'.mono Hb2.out.size))
  clear hb'
  by_cases c1 : 100 < sizeOfC x
  · have d1 : decide ((sizeOfC x : Int) > 100) = true := by simp; omega
    have d2 : decide ((100 : Int) < (sizeOfC x : Int)) = true := by simp; omega
    have d3 : decide (100 < sizeOfC x) = true := by simp; omega
    clear c1
    go_wp2_with fail
    go_ret
    exact ⟨rfl, Hup.out _ Hb3.out⟩
  have d1 : decide ((sizeOfC x : Int) > 100) = false := by simp; omega
  have d2 : decide ((100 : Int) < (sizeOfC x : Int)) = false := by simp; omega
  have d3 : decide (100 < sizeOfC x) = false := by simp; omega
  by_cases c2 : 10 < n
  · have d4 : decide ((n : Int) > 10) = true := by simp; omega
    have d5 : decide ((10 : Int) < (n : Int)) = true := by simp; omega
    have d6 : decide (10 < n) = true := by simp; omega
    clear c1 c2
    go_wp2_with fail
    go_ret
    exact ⟨rfl, Hup.out _ Hb3.out⟩
  have d4 : decide ((n : Int) > 10) = false := by simp; omega
  have d5 : decide ((10 : Int) < (n : Int)) = false := by simp; omega
  have d6 : decide (10 < n) = false := by simp; omega
  have C2 : n ≤ 10 := by omega
  clear c1 c2
  go_wp2_with (first | (refine K.wpList_load_node_want rfl _ rfl w.heap.size 0 _ rfl (H7x.out _ Hb3.out) ?_) | fail)
  refine (Hgood.out _ (Hup.out _ Hb3.out)).mono ?_
  rintro e w4 ⟨rfl, hb'⟩
  have Hb4 := Lib.hid (Hb3.out.trans (hb'.mono Hb3.out.size))
  clear hb'
  cases hg : goodC x
  case false =>
    clear hg
    go_wp2_with fail
    go_ret
    exact ⟨rfl, Hup.out _ Hb4.out⟩
  have HF := Lib.hid (Hfacts.out hg)
  clear hg C2 d1 d2 d3 Hfacts
  go_upto_region 6 with (first
    | (refine K.wpList_load_core rfl _ rfl w.heap.size 0 _ rfl (H7x.out _ Hb4.out) ?_)
    | (go_at_call 16; refine (Hfirst.out _ (Hup.out _ Hb4.out)).mono ?_; rintro e w5 ⟨rfl, hb'⟩; have Hb5 := Lib.hid (Hb4.out.trans (hb'.mono Hb4.out.size)); clear hb')
    | fail)
  obtain ⟨bf, hbf⟩ : ∃ bf, bf = w5.heap.size := ⟨_, rfl⟩
  obtain ⟨F, hF⟩ : ∃ F, F = firstC x := ⟨_, rfl⟩
  rw [← hF] at HF ⊢
  obtain ⟨w6, hw6⟩ : ∃ w6, w6 = w5.alloc (.cells #[.int .u64 (word F 0), .int .u64 (word F 1), .int .u64 (word F 2), .int .u64 (word F 3)] 25) := ⟨_, rfl⟩
  rw [← hw6]
  have hs6 : SetAt w6 bf F := by rw [hw6, hbf]; exact World.alloc_heap_new w5 _
  have HS6 := Lib.hid hs6
  have Hb6 := Lib.hid (Hb5.out.trans ((by rw [hw6]; exact alloc_below w5 _ : Below w5.heap.size w5 w6).mono Hb5.out.size))
  rw [← hbf]
  clear hbf hw6 hs6 hF
  go_wp2_with (first | (refine K.wpList_load_core rfl _ rfl w.heap.size 0 _ rfl (H7x.out _ Hb6.out) ?_) | fail)
  refine (Hends.out _ (Hup.out _ Hb6.out)).mono ?_
  rintro e w7 ⟨v, rfl, hv, hb'⟩
  have Hb7 := Lib.hid (Hb6.out.trans (hb'.mono Hb6.out.size))
  have HS7 := Lib.hid (setAt_below HS6.out hb' (setAt_lt HS6.out))
  obtain ⟨va, vcap, rfl, hvm, hvc⟩ := hv
  unfold maxLen at hvm
  have Hl7 := Lib.hid (Hatl.out w7 (Hup.out _ Hb7.out))
  have Hvc := Lib.hid hvc
  clear hb' hvc
  obtain ⟨FA, FB⟩ := HF.out
  generalize endsC x l 0 = L at *
  have FA := Lib.hid FA
  have FB := Lib.hid FB
  clear HF Hends Hfirst
  go_wp2_with fail
  go_loopw [7] (fun i wr => ∃ j : Nat, i = .int .i64 j ∧ j ≤ L.length ∧ Below w7.heap.size w7 wr) (fun i _ => L.length - (intOf i).toNat)
  case atStart => exact ⟨0, rfl, Nat.zero_le _, Below.refl _ _⟩
  case round =>
    obtain ⟨j, rfl, hj, hbr⟩ := hrel
    by_cases hjl : j < L.length
    · have hd : decide ((j : Int) < L.length) = true := by simp; omega
      rcases Hvc.out with h | ⟨g, hva, hcap, hgw, hget⟩
      · omega
      subst hva
      obtain ⟨wd, hwd⟩ : ∃ wd, wd = wr.drew := ⟨_, rfl⟩
      have hbd : Below w7.heap.size w7 wd := by rw [hwd]; exact hbr.drew
      obtain ⟨C, hC⟩ : ∃ C : World → Prop, C = fun w' => Below w7.heap.size w7 w' := ⟨_, rfl⟩
      have hCd : C wd := by rw [hC]; exact hbd
      have hCB : ∀ w', C w' → Below w7.heap.size w7 w' := by rw [hC]; exact fun w' h => h
      have Hcw := Lib.hid (show ∀ w' w2, C w' → Below w'.heap.size w' w2 → C w2 by rw [hC]; exact fun w' w2 h hb => h.trans (hb.mono h.size))
      have k0 : ∀ Lw : HeldW C, Lw.val.cell? ⟨g, j, none⟩ = some (.int .i64 (L[j] : Int)) := fun Lw => by
        rw [(hCB _ Lw.ok).cell (p := ⟨g, j, none⟩) hgw]
        exact hget j _ (List.getElem?_eq_getElem hjl)
      have s4 : ∀ w', (∃ Lw : HeldW C, w' = Lw.val) → Set4 w' bf 0 F := fun w' h => by
        obtain ⟨Lw, rfl⟩ := h
        exact (setAt_below HS7.out (hCB _ Lw.ok) (setAt_lt HS7.out)).four
      have hne : Nonempty (HeldW C) := HeldW.nonempty hCd
      have HC := Lib.hid hCd
      have Hcd := Lib.hid hCd
      have Hcb := Lib.hid hCB
      have hmem : L[j] ∈ L := List.getElem_mem hjl
      have hfa := fun h : 0 < L[j] => FA.out _ hmem h
      have hll := Hl7.out
      generalize L[j] = y at *
      clear hC hCB hCd hbd hget hmem
      by_cases hy : 0 < y
      · have dy : decide ((y : Int) > 0) = true := by simp; omega
        have dy2 : decide ((0 : Int) < (y : Int)) = true := by simp; omega
        have dy3 : decide (0 < y) = true := by simp; omega
        obtain ⟨hn0, hbit⟩ := hfa hy
        have hl0 : 0 < l.length := by have := hll.1; omega
        rcases hll.2.2.2 with h | ⟨sb, soff, hsa, hscap, hsw, hsget⟩
        · omega
        subst hsa
        have hlt0 : l.getD 0 0 < 256 := by rw [List.getD_eq_getElem?_getD, List.getElem?_eq_getElem hl0]; exact hll.2.1 _ (List.getElem_mem hl0)
        have hs0 := hsget 0 hn0
        have k1 : ∀ Lw : HeldW C, Lw.val.cell? ⟨sb, soff, none⟩ = some (.int .u8 (l.getD 0 0 : Int)) := fun Lw => by
          rw [(Hcb.out _ Lw.ok).cell (p := ⟨sb, soff, none⟩) hsw]
          rw [Nat.add_zero] at hs0; exact hs0
        have hhas := fun w' => has_any F (l.getD 0 0) hlt0 w'
        rw [hbit] at hhas
        have Hhas := Lib.hid hhas
        generalize l.getD 0 0 = c0 at *
        clear hfa hsget hs0 hhas hbit hy hll hl0
        go_wp2_with fail
        refine wp_region_hold C (.plain 0 (.plain 1 (.plain 2 (.plain 3 (.plain 4 (.plain 5 (.plain 6 (.plain 7 (.plain 8 (.plain 9 (.sole 10 (.plain 11 (.plain 12 .done))))))))))))) (by rw [← hwd]; exact Hcd.out) (by kernel_rfl) (by kernel_rfl) (fun c a d v w h => by cases d <;> exact h) ?_
        rw [← hwd]
        clear hwd
        repeat (first
            | (refine' hold_skip ?_ ?_ ?_
               rotate_left 1
               · simp only [List.getElem?_toArray, List.getElem?_cons_zero, List.getElem?_cons_succ]; exact rfl
               · exact rfl
               simp only [Act.put, List.setIfInBounds_toArray, List.set_cons_zero, List.set_cons_succ])
            | (refine' hold_want ?_ ?_ (fun K hK => ?_)
               rotate_left 1
               · simp only [List.getElem?_toArray, List.getElem?_cons_zero, List.getElem?_cons_succ]; exact rfl
               · exact rfl
               first
               | (refine quiet_load_set _ rfl bf 0 F rfl s4 ?_; refine hK _ ?_; clear hK K; try simp only [Act.put, List.setIfInBounds_toArray, List.set_cons_zero, List.set_cons_succ])
               | (go_big_quiet_op; refine hK _ ?_; clear hK K)))
        refine' hold_sole ?_ ?_ (fun K hK => ?_)
        rotate_left 1
        · simp only [List.getElem?_toArray, List.getElem?_cons_zero, List.getElem?_cons_succ]; exact rfl
        · exact rfl
        go_simp
        refine (Hhas.out _).mono ?_
        rintro e wz ⟨rfl, hb⟩
        refine hK _ _ (Hcw.out _ _ HC.out hb) ?_
        have HC := Lib.hid (Hcw.out _ _ HC.out hb)
        clear hb
        clear hK K
        try simp only [Act.put, List.setIfInBounds_toArray, List.set_cons_zero, List.set_cons_succ]
        repeat (first
            | (refine' hold_skip ?_ ?_ ?_
               rotate_left 1
               · simp only [List.getElem?_toArray, List.getElem?_cons_zero, List.getElem?_cons_succ]; exact rfl
               · exact rfl
               simp only [Act.put, List.setIfInBounds_toArray, List.set_cons_zero, List.set_cons_succ])
            | (refine' hold_want ?_ ?_ (fun K hK => ?_)
               rotate_left 1
               · simp only [List.getElem?_toArray, List.getElem?_cons_zero, List.getElem?_cons_succ]; exact rfl
               · exact rfl
               first
               | (go_big_quiet_op; refine hK _ ?_; clear hK K)))
        refine hold_done ?_
        have Hbz := Lib.hid (Hcb.out _ HC.out)
        clear k0 k1 s4
        go_wp2_with fail
        go_roundw
        case rel => exact ⟨j + 1, by go_num, hjl, Hbz.out⟩
        case measure => simp [intOf]; omega
      · obtain rfl : y = 0 := by omega
        clear hfa hll hy
        go_wp2_with fail
        refine wp_region_hold C (.plain 0 (.plain 1 (.plain 2 (.plain 3 (.plain 4 (.plain 5 (.plain 6 (.plain 7 (.plain 8 (.plain 9 (.sole 10 (.plain 11 (.plain 12 .done))))))))))))) (by rw [← hwd]; exact Hcd.out) (by kernel_rfl) (by kernel_rfl) (fun c a d v w h => by cases d <;> exact h) ?_
        rw [← hwd]
        clear hwd
        repeat (first
            | (refine' hold_skip ?_ ?_ ?_
               rotate_left 1
               · simp only [List.getElem?_toArray, List.getElem?_cons_zero, List.getElem?_cons_succ]; exact rfl
               · exact rfl
               simp only [Act.put, List.setIfInBounds_toArray, List.set_cons_zero, List.set_cons_succ])
            | (refine' hold_want ?_ ?_ (fun K hK => ?_)
               rotate_left 1
               · simp only [List.getElem?_toArray, List.getElem?_cons_zero, List.getElem?_cons_succ]; exact rfl
               · exact rfl
               first
               | (refine quiet_load_set _ rfl bf 0 F rfl s4 ?_; refine hK _ ?_; clear hK K; try simp only [Act.put, List.setIfInBounds_toArray, List.set_cons_zero, List.set_cons_succ])
               | (go_big_quiet_op; refine hK _ ?_; clear hK K)))
        refine' hold_sole_skip ?_ ?_ ?_
        rotate_left 1
        · simp only [List.getElem?_toArray, List.getElem?_cons_zero, List.getElem?_cons_succ]; exact rfl
        · exact rfl
        try simp only [Act.put, List.setIfInBounds_toArray, List.set_cons_zero, List.set_cons_succ]
        repeat (first
            | (refine' hold_skip ?_ ?_ ?_
               rotate_left 1
               · simp only [List.getElem?_toArray, List.getElem?_cons_zero, List.getElem?_cons_succ]; exact rfl
               · exact rfl
               simp only [Act.put, List.setIfInBounds_toArray, List.set_cons_zero, List.set_cons_succ])
            | (refine' hold_want ?_ ?_ (fun K hK => ?_)
               rotate_left 1
               · simp only [List.getElem?_toArray, List.getElem?_cons_zero, List.getElem?_cons_succ]; exact rfl
               · exact rfl
               first
               | (go_big_quiet_op; refine hK _ ?_; clear hK K)))
        refine hold_done ?_
        have Hbz := Lib.hid (Hcb.out _ HC.out)
        clear k0 s4
        go_wp2_with fail
        go_roundw
        case rel => exact ⟨j + 1, by go_num, hjl, Hbz.out⟩
        case measure => simp [intOf]; omega
    · obtain rfl : j = L.length := by omega
      have hd : decide ((L.length : Int) < L.length) = false := by simp
      have Hbw := Lib.hid (Hb7.out.trans (hbr.mono Hb7.out.size))
      by_cases hL0 : L.length = 0
      · have e0 : ((L.length : Int) == 0) = true := by rw [hL0]; rfl
        clear hbr hL0
        go_wp2_with fail
        go_ret
        exact ⟨rfl, Hup.out _ Hbw.out⟩
      · have e0 : ((L.length : Int) == 0) = false := by rw [beq_eq_false_iff_ne]; omega
        have hpos : 0 < L.length := by omega
        rcases Hvc.out with h | ⟨g, hva, hcap, hgw, hget⟩
        · omega
        subst hva
        have k0 : wr.cell? ⟨g, 0, none⟩ = some (.int .i64 (L[0] : Int)) := by
          rw [hbr.cell (p := ⟨g, 0, none⟩) hgw]
          exact hget 0 _ (List.getElem?_eq_getElem hpos)
        have hmem : L[0] ∈ L := List.getElem_mem hpos
        have hfb := fun h : L[0] = 0 => FB.out (h ▸ hmem)
        have hp1 : decide (0 < L.length) = true := by simp; omega
        generalize L[0] = y at *
        have hno := Hnull.out _ (Hup.out _ Hbw.out)
        clear hget hmem hbr
        by_cases hy : 0 < y
        · have dy : decide ((y : Int) > 0) = true := by simp; omega
          have dy2 : decide ((0 : Int) < (y : Int)) = true := by simp; omega
          have dy3 : decide (0 < y) = true := by simp; omega
          clear hno hfb hy hL0
          go_wp2_with fail
          go_ret
          exact ⟨rfl, Hup.out _ Hbw.out⟩
        · obtain rfl : y = 0 := by omega
          rw [hfb rfl] at hno
          have Hno := Lib.hid hno
          clear hno hfb hy hL0
          go_wp2_with (first | (refine K.wpList_load_node_want rfl _ rfl w.heap.size 0 _ rfl (H7x.out _ Hbw.out) ?_) | fail)
          refine Hno.out.mono ?_
          rintro e w8 ⟨rfl, hb'⟩
          have Hb8 := Lib.hid (Hbw.out.trans (hb'.mono Hbw.out.size))
          clear hb'
          go_wp2_with fail
          go_ret
          exact ⟨rfl, Hup.out _ Hb8.out⟩
end Go.Proofs.Ytobhjfhmhhahoaa
