/- rank's own compareParts, compare, Cmp, walked for every value. -/
import Derived.Test.YtkekdfelcfoilaaRankLists
namespace Go.Proofs.Ytkekdfelcfoilaa
namespace V
set_option maxRecDepth 100000
open Go.RowKit
set_option maxHeartbeats 16000000 in
theorem cmpParts_any {x y : Vl} (hx : ∀ u ∈ cntd x, CmpOk u) {cs ds : List Value} {w : World} (hc : Vl.at w x cs) (hd : Vl.at w y ds) :
    Calls Try.prog 25 #[.agg cs.toArray, .agg ds.toArray] w fun e w' => e = .returned (.agg #[.int .i64 (longer x y), .int .i64 (part x y)]) ∧ Below w.heap.size w w' := by
  obtain ⟨W, hW⟩ : ∃ W, W = ((w.alloc (.cells cs.toArray 25)).alloc (.cells ds.toArray 25)).alloc (.cells #[.int .i64 0, .int .i64 0] 44) := ⟨_, rfl⟩
  have hbW : Below w.heap.size w W := by rw [hW]; exact (((Below.refl _ _).alloc (Nat.le_refl _) _).alloc (by simp) _).alloc (by simp; omega) _
  have hsW : W.heap.size = w.heap.size + 3 := by rw [hW]; simp
  have hv1 : Val3 W w.heap.size 0 cs := by
    rw [hW]
    exact Val3.below (val3_in (World.alloc_heap_new w (.cells cs.toArray 25)) (at_len hc)) (B := w.heap.size + 1) (by omega) (((Below.refl _ _).alloc (by simp) _).alloc (by simp; try omega) _)
  have hv2 : Val3 W (w.heap.size + 1) 0 ds := by
    have h := World.alloc_heap_new (w.alloc (.cells cs.toArray 25)) (.cells ds.toArray 25)
    rw [World.size_alloc] at h
    rw [hW]
    exact Val3.below (val3_in h (at_len hd)) (B := w.heap.size + 2) (by omega) ((Below.refl _ _).alloc (by simp; try omega) _)
  have hO4 : OutIn W (w.heap.size + 2) 0 0 := by
    have h := World.alloc_heap_new ((w.alloc (.cells cs.toArray 25)).alloc (.cells ds.toArray 25)) (.cells #[.int .i64 0, .int .i64 0] 44)
    rw [World.size_alloc, World.size_alloc] at h
    rw [hW]; exact h
  have hA1 := fun w' (h : KeptR (w.heap.size + 2) W w') => at_kept hc hbW h (Nat.le_add_right _ _)
  have hA2 := fun w' (h : KeptR (w.heap.size + 2) W w') => at_kept hd hbW h (Nat.le_add_right _ _)
  have HA := Lib.hid (And.intro hA1 hA2)
  have HV1 := Lib.hid (fun w' (h : KeptR (w.heap.size + 2) W w') => h.val hv1 (by omega))
  have HV2 := Lib.hid (fun w' (h : KeptR (w.heap.size + 2) W w') => h.val hv2 (by omega))
  have HbW := Lib.hid hbW
  have HsW := Lib.hid hsW
  have H4 := Lib.hid hO4
  have Hx := Lib.hid hx
  obtain ⟨a1, c1, e1, rfl⟩ := at_cells hc
  obtain ⟨a2, c2, e2, rfl⟩ := at_cells hd
  have p0 : W.cell? ⟨w.heap.size, 0, none⟩ = some (.int .i64 x.kind) := hv1.2 0 (by decide)
  have q0 : W.cell? ⟨w.heap.size + 1, 0, none⟩ = some (.int .i64 y.kind) := hv2.2 0 (by decide)
  have p1 : W.cell? ⟨w.heap.size, 1, none⟩ = some (.int .u8 x.byte) := hv1.2 1 (by decide)
  have q1 : W.cell? ⟨w.heap.size + 1, 1, none⟩ = some (.int .u8 y.byte) := hv2.2 1 (by decide)
  have P0 := Lib.hid (fun L : HeldW (KeptR (w.heap.size + 2) W) => (HV1.out _ L.ok).2 0 (by decide))
  have Q0 := Lib.hid (fun L : HeldW (KeptR (w.heap.size + 2) W) => (HV2.out _ L.ok).2 0 (by decide))
  generalize hn1 : x.nodes.length = ln1 at *
  generalize hn2 : y.nodes.length = ln2 at *
  by_cases hk : x.kind = y.kind
  · have ek : (x.kind != y.kind) = false := by simp [hk]
    have hlp := longer_parts hk
    by_cases h2 : x.kind = 2
    · have e2k : (x.kind == 2) = true := by simp [h2]
      have ep : part x y = cmpI x.byte y.byte := by unfold part; rw [if_pos hk, if_pos h2]
      rw [if_pos h2] at hlp
      rw [hlp, ep]
      have hcall := cmpByte_any x.byte y.byte W
      generalize x.kind = kx at *
      generalize y.kind = ky at *
      generalize x.byte = zx at *
      generalize y.byte = zy at *
      clear hA1 hA2 hv1 hv2 hbW hsW hO4 hx hc hd e1 e2 hk h2 hlp ep hn1 hn2 HA HV1 HV2 P0 Q0 Hx
      go_enter Try.func25, Try.ntmps25
      go_upto_region 1 with fail
      rw [← hW]
      clear hW
      go_wp2_with fail
      refine hcall.mono ?_
      rintro e w1 ⟨rfl, hb1⟩
      have HF := Lib.hid (And.intro (H4.out.later hb1) hb1)
      clear hb1 hcall
      go_wp2_with (first
        | (refine wpList_store_out rfl _ _ rfl (w.heap.size + 2) _ _ _ _ rfl rfl HF.out.1 ?_; intro w9 hO9 ho9; have H9 := Lib.hid (And.intro hO9 ho9); clear hO9 ho9)
        | fail)
      exact bodyPost_ret (results_out rfl _ _ (w.heap.size + 2) _ _ rfl H9.out.1) rfl ⟨rfl, H9.out.2.below (HbW.out.trans (HF.out.2.mono HbW.out.size)) (Nat.le_add_right _ _)⟩
    · have e2k : (x.kind == 2) = false := by simp [h2]
      have ep : part x y = ordL (cntd x) (cntd y) := by unfold part; rw [if_pos hk, if_neg h2]
      rw [if_neg h2] at hlp
      rw [hlp, ep]
      have HL1 := Lib.hid (fun w' (h : KeptR (w.heap.size + 2) W w') => rkCounted_all (hA1 w' h))
      have HL2 := Lib.hid (fun w' (h : KeptR (w.heap.size + 2) W w') => rkCounted_all (hA2 w' h))
      generalize cntd x = lx at *
      generalize cntd y = ly at *
      generalize x.kind = kx at *
      generalize y.kind = ky at *
      generalize x.byte = zx at *
      generalize y.byte = zy at *
      clear hA1 hA2 hv1 hv2 hbW hsW hO4 hx hc hd e1 e2 hk h2 hlp ep hn1 hn2 P0 Q0
      go_enter Try.func25, Try.ntmps25
      go_upto_region 1 with fail
      rw [← hW]
      clear hW
      go_upto_region 5 with fail
      obtain ⟨wd, hwd⟩ : ∃ wd, wd = W.drew := ⟨_, rfl⟩
      have hBd : Below W.heap.size W wd := by rw [hwd]; exact (Below.refl _ _).drew
      have hKd : KeptR (w.heap.size + 2) W wd := KeptR.of_below hBd
      have hOd := (H4.out).later hBd
      have hNE : Nonempty (HeldW (KeptR (w.heap.size + 2) W)) := ⟨⟨wd, hKd⟩⟩
      refine wp_region_hold (KeptR (w.heap.size + 2) W) (.plain 0 (.plain 2 (.sole 1 (.sole 3 (.sole 4 (.sole 5 .done)))))) (by rw [← hwd]; exact hKd) (by kernel_rfl) (by kernel_rfl) (fun c a d v w h => by cases d <;> exact h) ?_
      rw [← hwd]
      clear hwd
      repeat (first
          | (refine' hold_skip ?_ ?_ ?_
             rotate_left 1
             · simp only [List.getElem?_toArray, List.getElem?_cons_zero, List.getElem?_cons_succ]; exact rfl
             · exact rfl
             simp only [Act.put, List.setIfInBounds_toArray, List.set_cons_zero, List.set_cons_succ])
          | (refine' hold_want ?_ ?_ (fun J hJ => ?_)
             rotate_left 1
             · simp only [List.getElem?_toArray, List.getElem?_cons_zero, List.getElem?_cons_succ]; exact rfl
             · exact rfl
             first
             | (refine quiet_load_val _ rfl w.heap.size 0 _ rfl (fun w' ⟨L, hL⟩ => hL ▸ HV1.out _ L.ok) ?_; refine hJ _ ?_; clear hJ J; try simp only [Act.put, List.setIfInBounds_toArray, List.set_cons_zero, List.set_cons_succ])
             | (refine quiet_load_val _ rfl (w.heap.size + 1) 0 _ rfl (fun w' ⟨L, hL⟩ => hL ▸ HV2.out _ L.ok) ?_; refine hJ _ ?_; clear hJ J; try simp only [Act.put, List.setIfInBounds_toArray, List.set_cons_zero, List.set_cons_succ])
             | (refine quiet_extract _ _ rfl _ _ rfl rfl ?_; refine hJ _ ?_; clear hJ J; try simp only [Act.put, List.setIfInBounds_toArray, List.set_cons_zero, List.set_cons_succ])
             | (go_big_quiet_op; refine hJ _ ?_; clear hJ J; try simp only [Act.put, List.setIfInBounds_toArray, List.set_cons_zero, List.set_cons_succ])))
      refine' hold_sole ?_ ?_ (fun J hJ => ?_)
      rotate_left 1
      · simp only [List.getElem?_toArray, List.getElem?_cons_zero, List.getElem?_cons_succ]; exact rfl
      · exact rfl
      go_simp
      refine (HL1.out _ hKd).mono ?_
      rintro e w91 ⟨v91, rfl, hv91, hb91⟩
      have hK91 : KeptR (w.heap.size + 2) W w91 := hKd.trans (KeptR.of_below hb91)
      have hO91 := hOd.later hb91
      refine hJ _ _ hK91 ?_
      clear hJ J hb91
      try simp only [Act.put, List.setIfInBounds_toArray, List.set_cons_zero, List.set_cons_succ]
      refine' hold_sole ?_ ?_ (fun J hJ => ?_)
      rotate_left 1
      · simp only [List.getElem?_toArray, List.getElem?_cons_zero, List.getElem?_cons_succ]; exact rfl
      · exact rfl
      go_simp
      refine (HL2.out _ hK91).mono ?_
      rintro e w92 ⟨v92, rfl, hv92, hb92⟩
      have hK92 : KeptR (w.heap.size + 2) W w92 := hK91.trans (KeptR.of_below hb92)
      have hO92 := hO91.later hb92
      refine hJ _ _ hK92 ?_
      clear hJ J hb92
      try simp only [Act.put, List.setIfInBounds_toArray, List.set_cons_zero, List.set_cons_succ]
      refine' hold_sole ?_ ?_ (fun J hJ => ?_)
      rotate_left 1
      · simp only [List.getElem?_toArray, List.getElem?_cons_zero, List.getElem?_cons_succ]; exact rfl
      · exact rfl
      go_simp
      refine (cmpLists_any Hx.out (hv91 _ (HA.out.1 _ hK92)) (hv92 _ (HA.out.2 _ hK92))).mono ?_
      rintro e w93 ⟨rfl, hb93⟩
      have hK93 : KeptR (w.heap.size + 2) W w93 := hK92.trans (KeptR.of_below hb93)
      have hO93 := hO92.later hb93
      refine hJ _ _ hK93 ?_
      clear hJ J hb93
      try simp only [Act.put, List.setIfInBounds_toArray, List.set_cons_zero, List.set_cons_succ]
      refine' hold_sole ?_ ?_ (fun J hJ => ?_)
      rotate_left 1
      · simp only [List.getElem?_toArray, List.getElem?_cons_zero, List.getElem?_cons_succ]; exact rfl
      · exact rfl
      refine wp_store_out _ _ rfl _ _ _ _ _ rfl rfl hO93 ?_
      intro w94 hO94 ho94
      have hK94 := hK93.trans (KeptR.of_only ho94)
      refine hJ _ _ hK94 ?_
      clear hJ J ho94
      try simp only [Act.put, List.setIfInBounds_toArray, List.set_cons_zero, List.set_cons_succ]
      refine hold_done ?_
      have HF := Lib.hid (And.intro hO94 hK94)
      go_wp2_with fail
      exact bodyPost_ret (results_out rfl _ _ (w.heap.size + 2) _ _ rfl HF.out.1) rfl ⟨rfl, HbW.out.trans (HF.out.2.below (Nat.le_add_right _ _) HbW.out.size)⟩
  · have ek : (x.kind != y.kind) = true := by simp [hk]
    have ep : part x y = cmpI x.kind y.kind := by unfold part; rw [if_neg hk]
    rw [ep]
    have HL1 := Lib.hid (fun w' (h : KeptR (w.heap.size + 2) W w') => len_any x _ w' (hA1 w' h))
    have HL2 := Lib.hid (fun w' (h : KeptR (w.heap.size + 2) W w') => len_any y _ w' (hA2 w' h))
    unfold longer Vl.len
    generalize x.meas.1 = n1 at *
    generalize y.meas.1 = n2 at *
    have P0' := P0.out
    have Q0' := Q0.out
    simp only [Nat.zero_add, List.getElem?_cons_zero] at P0' Q0'
    generalize x.kind = kx at *
    generalize y.kind = ky at *
    generalize x.byte = zx at *
    generalize y.byte = zy at *
    clear hA1 hA2 hv1 hv2 hbW hsW hO4 hx hc hd e1 e2 hk ep hn1 hn2 P0 Q0 HA Hx
    go_enter Try.func25, Try.ntmps25
    go_upto_region 1 with fail
    rw [← hW]
    clear hW
    go_upto_region 2 with fail
    obtain ⟨wd, hwd⟩ : ∃ wd, wd = W.drew := ⟨_, rfl⟩
    have hBd : Below W.heap.size W wd := by rw [hwd]; exact (Below.refl _ _).drew
    have hKd : KeptR (w.heap.size + 2) W wd := KeptR.of_below hBd
    have hOd := (H4.out).later hBd
    have hNE : Nonempty (HeldW (KeptR (w.heap.size + 2) W)) := ⟨⟨wd, hKd⟩⟩
    refine wp_region_hold (KeptR (w.heap.size + 2) W) (.plain 0 (.plain 2 (.plain 5 (.plain 6 (.plain 7 (.plain 8 (.sole 1 (.sole 3 (.plain 4 (.sole 9 (.plain 10 (.sole 11 .done)))))))))))) (by rw [← hwd]; exact hKd) (by kernel_rfl) (by kernel_rfl) (fun c a d v w h => by cases d <;> exact h) ?_
    rw [← hwd]
    clear hwd
    repeat (first
        | (refine' hold_skip ?_ ?_ ?_
           rotate_left 1
           · simp only [List.getElem?_toArray, List.getElem?_cons_zero, List.getElem?_cons_succ]; exact rfl
           · exact rfl
           simp only [Act.put, List.setIfInBounds_toArray, List.set_cons_zero, List.set_cons_succ])
        | (refine' hold_want ?_ ?_ (fun J hJ => ?_)
           rotate_left 1
           · simp only [List.getElem?_toArray, List.getElem?_cons_zero, List.getElem?_cons_succ]; exact rfl
           · exact rfl
           first
           | (refine quiet_load_val _ rfl w.heap.size 0 _ rfl (fun w' ⟨L, hL⟩ => hL ▸ HV1.out _ L.ok) ?_; refine hJ _ ?_; clear hJ J; try simp only [Act.put, List.setIfInBounds_toArray, List.set_cons_zero, List.set_cons_succ])
           | (refine quiet_load_val _ rfl (w.heap.size + 1) 0 _ rfl (fun w' ⟨L, hL⟩ => hL ▸ HV2.out _ L.ok) ?_; refine hJ _ ?_; clear hJ J; try simp only [Act.put, List.setIfInBounds_toArray, List.set_cons_zero, List.set_cons_succ])
           | (refine quiet_build_out _ _ rfl _ _ rfl rfl ?_; refine hJ _ ?_; clear hJ J; try simp only [Act.put, List.setIfInBounds_toArray, List.set_cons_zero, List.set_cons_succ])
           | (refine quiet_extract _ _ rfl _ _ rfl rfl ?_; refine hJ _ ?_; clear hJ J; try simp only [Act.put, List.setIfInBounds_toArray, List.set_cons_zero, List.set_cons_succ])
           | (go_big_quiet_op; refine hJ _ ?_; clear hJ J; try simp only [Act.put, List.setIfInBounds_toArray, List.set_cons_zero, List.set_cons_succ])))
    refine' hold_sole ?_ ?_ (fun J hJ => ?_)
    rotate_left 1
    · simp only [List.getElem?_toArray, List.getElem?_cons_zero, List.getElem?_cons_succ]; exact rfl
    · exact rfl
    go_simp
    refine (HL1.out _ hKd).mono ?_
    rintro e w87 ⟨rfl, hb87⟩
    have hK87 : KeptR (w.heap.size + 2) W w87 := hKd.trans (KeptR.of_below hb87)
    have hO87 := hOd.later hb87
    refine hJ _ _ hK87 ?_
    clear hJ J hb87
    try simp only [Act.put, List.setIfInBounds_toArray, List.set_cons_zero, List.set_cons_succ]
    refine' hold_sole ?_ ?_ (fun J hJ => ?_)
    rotate_left 1
    · simp only [List.getElem?_toArray, List.getElem?_cons_zero, List.getElem?_cons_succ]; exact rfl
    · exact rfl
    go_simp
    refine (HL2.out _ hK87).mono ?_
    rintro e w88 ⟨rfl, hb88⟩
    have hK88 : KeptR (w.heap.size + 2) W w88 := hK87.trans (KeptR.of_below hb88)
    have hO88 := hO87.later hb88
    refine hJ _ _ hK88 ?_
    clear hJ J hb88
    try simp only [Act.put, List.setIfInBounds_toArray, List.set_cons_zero, List.set_cons_succ]
    repeat (first
        | (refine' hold_skip ?_ ?_ ?_
           rotate_left 1
           · simp only [List.getElem?_toArray, List.getElem?_cons_zero, List.getElem?_cons_succ]; exact rfl
           · exact rfl
           simp only [Act.put, List.setIfInBounds_toArray, List.set_cons_zero, List.set_cons_succ])
        | (refine' hold_want ?_ ?_ (fun J hJ => ?_)
           rotate_left 1
           · simp only [List.getElem?_toArray, List.getElem?_cons_zero, List.getElem?_cons_succ]; exact rfl
           · exact rfl
           first
           | (refine quiet_load_val _ rfl w.heap.size 0 _ rfl (fun w' ⟨L, hL⟩ => hL ▸ HV1.out _ L.ok) ?_; refine hJ _ ?_; clear hJ J; try simp only [Act.put, List.setIfInBounds_toArray, List.set_cons_zero, List.set_cons_succ])
           | (refine quiet_load_val _ rfl (w.heap.size + 1) 0 _ rfl (fun w' ⟨L, hL⟩ => hL ▸ HV2.out _ L.ok) ?_; refine hJ _ ?_; clear hJ J; try simp only [Act.put, List.setIfInBounds_toArray, List.set_cons_zero, List.set_cons_succ])
           | (refine quiet_build_out _ _ rfl _ _ rfl rfl ?_; refine hJ _ ?_; clear hJ J; try simp only [Act.put, List.setIfInBounds_toArray, List.set_cons_zero, List.set_cons_succ])
           | (refine quiet_extract _ _ rfl _ _ rfl rfl ?_; refine hJ _ ?_; clear hJ J; try simp only [Act.put, List.setIfInBounds_toArray, List.set_cons_zero, List.set_cons_succ])
           | (go_big_quiet_op; refine hJ _ ?_; clear hJ J; try simp only [Act.put, List.setIfInBounds_toArray, List.set_cons_zero, List.set_cons_succ])))
    refine' hold_sole ?_ ?_ (fun J hJ => ?_)
    rotate_left 1
    · simp only [List.getElem?_toArray, List.getElem?_cons_zero, List.getElem?_cons_succ]; exact rfl
    · exact rfl
    go_simp
    refine (cmpInt_any _ _ _).mono ?_
    rintro e w89 ⟨rfl, hb89⟩
    have hK89 : KeptR (w.heap.size + 2) W w89 := hK88.trans (KeptR.of_below hb89)
    have hO89 := hO88.later hb89
    refine hJ _ _ hK89 ?_
    clear hJ J hb89
    try simp only [Act.put, List.setIfInBounds_toArray, List.set_cons_zero, List.set_cons_succ]
    repeat (first
        | (refine' hold_skip ?_ ?_ ?_
           rotate_left 1
           · simp only [List.getElem?_toArray, List.getElem?_cons_zero, List.getElem?_cons_succ]; exact rfl
           · exact rfl
           simp only [Act.put, List.setIfInBounds_toArray, List.set_cons_zero, List.set_cons_succ])
        | (refine' hold_want ?_ ?_ (fun J hJ => ?_)
           rotate_left 1
           · simp only [List.getElem?_toArray, List.getElem?_cons_zero, List.getElem?_cons_succ]; exact rfl
           · exact rfl
           first
           | (refine quiet_load_val _ rfl w.heap.size 0 _ rfl (fun w' ⟨L, hL⟩ => hL ▸ HV1.out _ L.ok) ?_; refine hJ _ ?_; clear hJ J; try simp only [Act.put, List.setIfInBounds_toArray, List.set_cons_zero, List.set_cons_succ])
           | (refine quiet_load_val _ rfl (w.heap.size + 1) 0 _ rfl (fun w' ⟨L, hL⟩ => hL ▸ HV2.out _ L.ok) ?_; refine hJ _ ?_; clear hJ J; try simp only [Act.put, List.setIfInBounds_toArray, List.set_cons_zero, List.set_cons_succ])
           | (refine quiet_build_out _ _ rfl _ _ rfl rfl ?_; refine hJ _ ?_; clear hJ J; try simp only [Act.put, List.setIfInBounds_toArray, List.set_cons_zero, List.set_cons_succ])
           | (refine quiet_extract _ _ rfl _ _ rfl rfl ?_; refine hJ _ ?_; clear hJ J; try simp only [Act.put, List.setIfInBounds_toArray, List.set_cons_zero, List.set_cons_succ])
           | (go_big_quiet_op; refine hJ _ ?_; clear hJ J; try simp only [Act.put, List.setIfInBounds_toArray, List.set_cons_zero, List.set_cons_succ])))
    refine' hold_sole ?_ ?_ (fun J hJ => ?_)
    rotate_left 1
    · simp only [List.getElem?_toArray, List.getElem?_cons_zero, List.getElem?_cons_succ]; exact rfl
    · exact rfl
    refine wp_store_out _ _ rfl _ _ _ _ _ rfl rfl hO89 ?_
    intro w90 hO90 ho90
    have hK90 := hK89.trans (KeptR.of_only ho90)
    refine hJ _ _ hK90 ?_
    clear hJ J ho90
    try simp only [Act.put, List.setIfInBounds_toArray, List.set_cons_zero, List.set_cons_succ]
    refine hold_done ?_
    have HF := Lib.hid (And.intro hO90 hK90)
    go_wp2_with fail
    exact bodyPost_ret (results_out rfl _ _ (w.heap.size + 2) _ _ rfl HF.out.1) rfl ⟨rfl, HbW.out.trans (HF.out.2.below (Nat.le_add_right _ _) HbW.out.size)⟩
set_option maxHeartbeats 16000000 in
theorem compare_step {x : Vl} (hx : ∀ u ∈ cntd x, CmpOk u) : CmpOk x := by
  intro y cs ds w hc hd
  obtain ⟨W, hW⟩ : ∃ W, W = ((w.alloc (.cells cs.toArray 25)).alloc (.cells ds.toArray 25)).alloc (.cells #[.int .i64 0, .int .i64 0] 44) := ⟨_, rfl⟩
  have hbW : Below w.heap.size w W := by rw [hW]; exact (((Below.refl _ _).alloc (Nat.le_refl _) _).alloc (by simp) _).alloc (by simp; omega) _
  have hsW : W.heap.size = w.heap.size + 3 := by rw [hW]; simp
  have hv1 : Val3 W w.heap.size 0 cs := by
    rw [hW]
    exact Val3.below (val3_in (World.alloc_heap_new w (.cells cs.toArray 25)) (at_len hc)) (B := w.heap.size + 1) (by omega) (((Below.refl _ _).alloc (by simp) _).alloc (by simp; try omega) _)
  have hv2 : Val3 W (w.heap.size + 1) 0 ds := by
    have h := World.alloc_heap_new (w.alloc (.cells cs.toArray 25)) (.cells ds.toArray 25)
    rw [World.size_alloc] at h
    rw [hW]
    exact Val3.below (val3_in h (at_len hd)) (B := w.heap.size + 2) (by omega) ((Below.refl _ _).alloc (by simp; try omega) _)
  have hO4 : OutIn W (w.heap.size + 2) 0 0 := by
    have h := World.alloc_heap_new ((w.alloc (.cells cs.toArray 25)).alloc (.cells ds.toArray 25)) (.cells #[.int .i64 0, .int .i64 0] 44)
    rw [World.size_alloc, World.size_alloc] at h
    rw [hW]; exact h
  have hcall := cmpParts_any hx (Vl.at_below hbW (Nat.le_refl _) _ _ hc) (Vl.at_below hbW (Nat.le_refl _) _ _ hd)
  have HbW := Lib.hid hbW
  have HsW := Lib.hid hsW
  have H4 := Lib.hid hO4
  obtain ⟨k1, z1, a1, len1, cap1, rfl⟩ := at_lit hc
  obtain ⟨k2, z2, a2, len2, cap2, rfl⟩ := at_lit hd
  clear hbW hsW hO4 hc hd hx
  rw [ord_eq]
  generalize longer x y = X at *
  generalize part x y = Y at *
  go_enter Try.func20, Try.ntmps20
  go_upto_region 1 with fail
  rw [← hW]
  clear hW
  go_upto_region 2 with (first
    | (refine wpList_load_val rfl _ rfl w.heap.size 0 _ rfl hv1 ?_)
    | (refine wpList_load_val rfl _ rfl (w.heap.size + 1) 0 _ rfl hv2 ?_)
    | (go_at_call 25; refine hcall.mono ?_; rintro e w1 ⟨rfl, hb1⟩; have HbW1 := Lib.hid hb1; have hO6 : OutIn (w1.alloc (.cells #[.int .i64 0, .int .i64 0] 44)) w1.heap.size 0 0 := World.alloc_heap_new w1 _; clear hb1 hcall)
    | (refine wpList_store_out rfl _ _ rfl w1.heap.size _ _ _ _ rfl rfl hO6 ?_; intro w2 hO2 ho2; have HO2 := Lib.hid hO2; have HoW := Lib.hid ho2; clear hO2 ho2 hO6)
    | fail)
  have HbW2 : Hid (Below w.heap.size w w2) := Lib.hid (HoW.out.below ((HbW.out.trans (HbW1.out.mono HbW.out.size)).alloc (Nat.le_trans HbW.out.size HbW1.out.size) _) (Nat.le_trans HbW.out.size HbW1.out.size))
  have H4b : Hid (OutIn w2 (w.heap.size + 2) 0 0) := Lib.hid ((HoW.out.block _ (by have := HsW.out; have := HbW1.out.size; omega)).trans ((H4.out.later HbW1.out).later ((Below.refl _ _).alloc (Nat.le_refl _) _)))
  try simp only [Act.put]
  obtain ⟨wd, hwd⟩ : ∃ wd, wd = w2.drew := ⟨_, rfl⟩
  have hBd : Below w2.heap.size w2 wd := by rw [hwd]; exact (Below.refl _ _).drew
  have hKd : KeptR w1.heap.size w2 wd := KeptR.of_below hBd
  have hOd := (HO2.out).later hBd
  have hNE : Nonempty (HeldW (KeptR w1.heap.size w2)) := ⟨⟨wd, hKd⟩⟩
  refine wp_region_hold (KeptR w1.heap.size w2) (.plain 0 (.plain 3 (.fork 1 (.fork 2 (.sole 4 (.sole 5 (.sole 6 (.plain 7 (.sole 8 .done))))) 4 (.sole 2 (.sole 5 (.sole 6 (.plain 7 (.sole 8 .done)))))) 4 (.sole 1 (.sole 2 (.sole 5 (.sole 6 (.plain 7 (.sole 8 .done))))))))) (by rw [← hwd]; exact hKd) (by kernel_rfl) (by kernel_rfl) (fun c a d v w h => by cases d <;> exact h) ?_
  rw [← hwd]
  clear hwd
  repeat (first
      | (refine' hold_skip ?_ ?_ ?_
         rotate_left 1
         · simp only [List.getElem?_toArray, List.getElem?_cons_zero, List.getElem?_cons_succ]; exact rfl
         · exact rfl
         simp only [Act.put, List.setIfInBounds_toArray, List.set_cons_zero, List.set_cons_succ])
      | (refine' hold_want ?_ ?_ (fun J hJ => ?_)
         rotate_left 1
         · simp only [List.getElem?_toArray, List.getElem?_cons_zero, List.getElem?_cons_succ]; exact rfl
         · exact rfl
         first
         | (refine quiet_extract _ _ rfl _ _ rfl rfl ?_; refine hJ _ ?_; clear hJ J; try simp only [Act.put, List.setIfInBounds_toArray, List.set_cons_zero, List.set_cons_succ])
         | (go_big_quiet_op; refine hJ _ ?_; clear hJ J; try simp only [Act.put, List.setIfInBounds_toArray, List.set_cons_zero, List.set_cons_succ])))
  refine hold_fork ?_ ?_
  · refine' hold_step ?_ ?_ (fun J hJ => ?_)
    rotate_left 1
    · simp only [List.getElem?_toArray, List.getElem?_cons_zero, List.getElem?_cons_succ]; exact rfl
    · exact rfl
    refine wp_load_oint _ rfl _ _ rfl hOd.c0 ?_
    refine hJ _ _ hKd ?_
    clear hJ J
    try simp only [Act.put, List.setIfInBounds_toArray, List.set_cons_zero, List.set_cons_succ]
    refine hold_fork ?_ ?_
    · refine' hold_step ?_ ?_ (fun J hJ => ?_)
      rotate_left 1
      · simp only [List.getElem?_toArray, List.getElem?_cons_zero, List.getElem?_cons_succ]; exact rfl
      · exact rfl
      go_simp
      refine (cmpInt_any _ _ _).mono ?_
      rintro e w95 ⟨rfl, hb95⟩
      have hK95 : KeptR w1.heap.size w2 w95 := hKd.trans (KeptR.of_below hb95)
      have hO95 := hOd.later hb95
      refine hJ _ _ hK95 ?_
      clear hJ J hb95
      try simp only [Act.put, List.setIfInBounds_toArray, List.set_cons_zero, List.set_cons_succ]
      refine' hold_sole ?_ ?_ (fun J hJ => ?_)
      rotate_left 1
      · simp only [List.getElem?_toArray, List.getElem?_cons_zero, List.getElem?_cons_succ]; exact rfl
      · exact rfl
      refine wp_load_oint _ rfl _ _ rfl hO95.c1 ?_
      refine hJ _ _ hK95 ?_
      clear hJ J
      try simp only [Act.put, List.setIfInBounds_toArray, List.set_cons_zero, List.set_cons_succ]
      refine' hold_sole ?_ ?_ (fun J hJ => ?_)
      rotate_left 1
      · simp only [List.getElem?_toArray, List.getElem?_cons_zero, List.getElem?_cons_succ]; exact rfl
      · exact rfl
      refine wp_build_two _ _ rfl _ _ rfl rfl ?_
      intro w96 hT96 hb96
      have hK96 := hK95.trans (KeptR.of_below hb96)
      have hO96 := hO95.later hb96
      refine hJ _ _ hK96 ?_
      clear hJ J hb96
      try simp only [Act.put, List.setIfInBounds_toArray, List.set_cons_zero, List.set_cons_succ]
      refine' hold_sole ?_ ?_ (fun J hJ => ?_)
      rotate_left 1
      · simp only [List.getElem?_toArray, List.getElem?_cons_zero, List.getElem?_cons_succ]; exact rfl
      · exact rfl
      go_simp
      refine (orInt_any _ _ _ _ hT96).mono ?_
      rintro e w97 ⟨rfl, hb97⟩
      have hK97 : KeptR w1.heap.size w2 w97 := hK96.trans (KeptR.of_below hb97)
      have hO97 := hO96.later hb97
      refine hJ _ _ hK97 ?_
      clear hJ J hb97
      try simp only [Act.put, List.setIfInBounds_toArray, List.set_cons_zero, List.set_cons_succ]
      repeat (first
          | (refine' hold_skip ?_ ?_ ?_
             rotate_left 1
             · simp only [List.getElem?_toArray, List.getElem?_cons_zero, List.getElem?_cons_succ]; exact rfl
             · exact rfl
             simp only [Act.put, List.setIfInBounds_toArray, List.set_cons_zero, List.set_cons_succ])
          | (refine' hold_want ?_ ?_ (fun J hJ => ?_)
             rotate_left 1
             · simp only [List.getElem?_toArray, List.getElem?_cons_zero, List.getElem?_cons_succ]; exact rfl
             · exact rfl
             first
             | (refine quiet_extract _ _ rfl _ _ rfl rfl ?_; refine hJ _ ?_; clear hJ J; try simp only [Act.put, List.setIfInBounds_toArray, List.set_cons_zero, List.set_cons_succ])
             | (go_big_quiet_op; refine hJ _ ?_; clear hJ J; try simp only [Act.put, List.setIfInBounds_toArray, List.set_cons_zero, List.set_cons_succ])))
      refine' hold_sole ?_ ?_ (fun J hJ => ?_)
      rotate_left 1
      · simp only [List.getElem?_toArray, List.getElem?_cons_zero, List.getElem?_cons_succ]; exact rfl
      · exact rfl
      refine wp_store_order _ _ rfl _ _ _ _ rfl rfl hO97 ?_
      intro w98 hO98 ho98
      have hK98 := hK97.trans (KeptR.of_only ho98)
      refine hJ _ _ hK98 ?_
      clear hJ J ho98
      try simp only [Act.put, List.setIfInBounds_toArray, List.set_cons_zero, List.set_cons_succ]
      refine hold_done ?_
      have H8 := Lib.hid (And.intro hO98 hK98)
      have hOy := H4b.out.kept H8.out.2 (by have := HsW.out; have := HbW1.out.size; omega)
      go_wp2_with (first
        | (refine wpList_load_out rfl _ rfl w1.heap.size _ _ rfl H8.out.1 ?_)
        | (refine wpList_store_out rfl _ _ rfl (w.heap.size + 2) _ _ _ _ rfl rfl hOy ?_; intro w9 hO9 ho9; have H9 := Lib.hid (And.intro hO9 ho9); clear hO9 ho9)
        | fail)
      exact bodyPost_ret (results_out rfl _ _ (w.heap.size + 2) _ _ rfl H9.out.1) rfl ⟨rfl, H9.out.2.below (HbW2.out.trans (H8.out.2.below (by have := HbW.out.size; have := HbW1.out.size; omega) HbW2.out.size)) (Nat.le_add_right _ _)⟩

    · refine' hold_step ?_ ?_ (fun J hJ => ?_)
      rotate_left 1
      · simp only [List.getElem?_toArray, List.getElem?_cons_zero, List.getElem?_cons_succ]; exact rfl
      · exact rfl
      refine wp_load_oint _ rfl _ _ rfl hOd.c1 ?_
      refine hJ _ _ hKd ?_
      clear hJ J
      try simp only [Act.put, List.setIfInBounds_toArray, List.set_cons_zero, List.set_cons_succ]
      refine' hold_sole ?_ ?_ (fun J hJ => ?_)
      rotate_left 1
      · simp only [List.getElem?_toArray, List.getElem?_cons_zero, List.getElem?_cons_succ]; exact rfl
      · exact rfl
      go_simp
      refine (cmpInt_any _ _ _).mono ?_
      rintro e w99 ⟨rfl, hb99⟩
      have hK99 : KeptR w1.heap.size w2 w99 := hKd.trans (KeptR.of_below hb99)
      have hO99 := hOd.later hb99
      refine hJ _ _ hK99 ?_
      clear hJ J hb99
      try simp only [Act.put, List.setIfInBounds_toArray, List.set_cons_zero, List.set_cons_succ]
      refine' hold_sole ?_ ?_ (fun J hJ => ?_)
      rotate_left 1
      · simp only [List.getElem?_toArray, List.getElem?_cons_zero, List.getElem?_cons_succ]; exact rfl
      · exact rfl
      refine wp_build_two _ _ rfl _ _ rfl rfl ?_
      intro w100 hT100 hb100
      have hK100 := hK99.trans (KeptR.of_below hb100)
      have hO100 := hO99.later hb100
      refine hJ _ _ hK100 ?_
      clear hJ J hb100
      try simp only [Act.put, List.setIfInBounds_toArray, List.set_cons_zero, List.set_cons_succ]
      refine' hold_sole ?_ ?_ (fun J hJ => ?_)
      rotate_left 1
      · simp only [List.getElem?_toArray, List.getElem?_cons_zero, List.getElem?_cons_succ]; exact rfl
      · exact rfl
      go_simp
      refine (orInt_any _ _ _ _ hT100).mono ?_
      rintro e w101 ⟨rfl, hb101⟩
      have hK101 : KeptR w1.heap.size w2 w101 := hK100.trans (KeptR.of_below hb101)
      have hO101 := hO100.later hb101
      refine hJ _ _ hK101 ?_
      clear hJ J hb101
      try simp only [Act.put, List.setIfInBounds_toArray, List.set_cons_zero, List.set_cons_succ]
      repeat (first
          | (refine' hold_skip ?_ ?_ ?_
             rotate_left 1
             · simp only [List.getElem?_toArray, List.getElem?_cons_zero, List.getElem?_cons_succ]; exact rfl
             · exact rfl
             simp only [Act.put, List.setIfInBounds_toArray, List.set_cons_zero, List.set_cons_succ])
          | (refine' hold_want ?_ ?_ (fun J hJ => ?_)
             rotate_left 1
             · simp only [List.getElem?_toArray, List.getElem?_cons_zero, List.getElem?_cons_succ]; exact rfl
             · exact rfl
             first
             | (refine quiet_extract _ _ rfl _ _ rfl rfl ?_; refine hJ _ ?_; clear hJ J; try simp only [Act.put, List.setIfInBounds_toArray, List.set_cons_zero, List.set_cons_succ])
             | (go_big_quiet_op; refine hJ _ ?_; clear hJ J; try simp only [Act.put, List.setIfInBounds_toArray, List.set_cons_zero, List.set_cons_succ])))
      refine' hold_sole ?_ ?_ (fun J hJ => ?_)
      rotate_left 1
      · simp only [List.getElem?_toArray, List.getElem?_cons_zero, List.getElem?_cons_succ]; exact rfl
      · exact rfl
      refine wp_store_order _ _ rfl _ _ _ _ rfl rfl hO101 ?_
      intro w102 hO102 ho102
      have hK102 := hK101.trans (KeptR.of_only ho102)
      refine hJ _ _ hK102 ?_
      clear hJ J ho102
      try simp only [Act.put, List.setIfInBounds_toArray, List.set_cons_zero, List.set_cons_succ]
      refine hold_done ?_
      have H8 := Lib.hid (And.intro hO102 hK102)
      have hOy := H4b.out.kept H8.out.2 (by have := HsW.out; have := HbW1.out.size; omega)
      go_wp2_with (first
        | (refine wpList_load_out rfl _ rfl w1.heap.size _ _ rfl H8.out.1 ?_)
        | (refine wpList_store_out rfl _ _ rfl (w.heap.size + 2) _ _ _ _ rfl rfl hOy ?_; intro w9 hO9 ho9; have H9 := Lib.hid (And.intro hO9 ho9); clear hO9 ho9)
        | fail)
      exact bodyPost_ret (results_out rfl _ _ (w.heap.size + 2) _ _ rfl H9.out.1) rfl ⟨rfl, H9.out.2.below (HbW2.out.trans (H8.out.2.below (by have := HbW.out.size; have := HbW1.out.size; omega) HbW2.out.size)) (Nat.le_add_right _ _)⟩


  · refine' hold_step ?_ ?_ (fun J hJ => ?_)
    rotate_left 1
    · simp only [List.getElem?_toArray, List.getElem?_cons_zero, List.getElem?_cons_succ]; exact rfl
    · exact rfl
    refine wp_load_oint _ rfl _ _ rfl hOd.c1 ?_
    refine hJ _ _ hKd ?_
    clear hJ J
    try simp only [Act.put, List.setIfInBounds_toArray, List.set_cons_zero, List.set_cons_succ]
    refine' hold_sole ?_ ?_ (fun J hJ => ?_)
    rotate_left 1
    · simp only [List.getElem?_toArray, List.getElem?_cons_zero, List.getElem?_cons_succ]; exact rfl
    · exact rfl
    refine wp_load_oint _ rfl _ _ rfl hOd.c0 ?_
    refine hJ _ _ hKd ?_
    clear hJ J
    try simp only [Act.put, List.setIfInBounds_toArray, List.set_cons_zero, List.set_cons_succ]
    refine' hold_sole ?_ ?_ (fun J hJ => ?_)
    rotate_left 1
    · simp only [List.getElem?_toArray, List.getElem?_cons_zero, List.getElem?_cons_succ]; exact rfl
    · exact rfl
    go_simp
    refine (cmpInt_any _ _ _).mono ?_
    rintro e w103 ⟨rfl, hb103⟩
    have hK103 : KeptR w1.heap.size w2 w103 := hKd.trans (KeptR.of_below hb103)
    have hO103 := hOd.later hb103
    refine hJ _ _ hK103 ?_
    clear hJ J hb103
    try simp only [Act.put, List.setIfInBounds_toArray, List.set_cons_zero, List.set_cons_succ]
    refine' hold_sole ?_ ?_ (fun J hJ => ?_)
    rotate_left 1
    · simp only [List.getElem?_toArray, List.getElem?_cons_zero, List.getElem?_cons_succ]; exact rfl
    · exact rfl
    refine wp_build_two _ _ rfl _ _ rfl rfl ?_
    intro w104 hT104 hb104
    have hK104 := hK103.trans (KeptR.of_below hb104)
    have hO104 := hO103.later hb104
    refine hJ _ _ hK104 ?_
    clear hJ J hb104
    try simp only [Act.put, List.setIfInBounds_toArray, List.set_cons_zero, List.set_cons_succ]
    refine' hold_sole ?_ ?_ (fun J hJ => ?_)
    rotate_left 1
    · simp only [List.getElem?_toArray, List.getElem?_cons_zero, List.getElem?_cons_succ]; exact rfl
    · exact rfl
    go_simp
    refine (orInt_any _ _ _ _ hT104).mono ?_
    rintro e w105 ⟨rfl, hb105⟩
    have hK105 : KeptR w1.heap.size w2 w105 := hK104.trans (KeptR.of_below hb105)
    have hO105 := hO104.later hb105
    refine hJ _ _ hK105 ?_
    clear hJ J hb105
    try simp only [Act.put, List.setIfInBounds_toArray, List.set_cons_zero, List.set_cons_succ]
    repeat (first
        | (refine' hold_skip ?_ ?_ ?_
           rotate_left 1
           · simp only [List.getElem?_toArray, List.getElem?_cons_zero, List.getElem?_cons_succ]; exact rfl
           · exact rfl
           simp only [Act.put, List.setIfInBounds_toArray, List.set_cons_zero, List.set_cons_succ])
        | (refine' hold_want ?_ ?_ (fun J hJ => ?_)
           rotate_left 1
           · simp only [List.getElem?_toArray, List.getElem?_cons_zero, List.getElem?_cons_succ]; exact rfl
           · exact rfl
           first
           | (refine quiet_extract _ _ rfl _ _ rfl rfl ?_; refine hJ _ ?_; clear hJ J; try simp only [Act.put, List.setIfInBounds_toArray, List.set_cons_zero, List.set_cons_succ])
           | (go_big_quiet_op; refine hJ _ ?_; clear hJ J; try simp only [Act.put, List.setIfInBounds_toArray, List.set_cons_zero, List.set_cons_succ])))
    refine' hold_sole ?_ ?_ (fun J hJ => ?_)
    rotate_left 1
    · simp only [List.getElem?_toArray, List.getElem?_cons_zero, List.getElem?_cons_succ]; exact rfl
    · exact rfl
    refine wp_store_order _ _ rfl _ _ _ _ rfl rfl hO105 ?_
    intro w106 hO106 ho106
    have hK106 := hK105.trans (KeptR.of_only ho106)
    refine hJ _ _ hK106 ?_
    clear hJ J ho106
    try simp only [Act.put, List.setIfInBounds_toArray, List.set_cons_zero, List.set_cons_succ]
    refine hold_done ?_
    have H8 := Lib.hid (And.intro hO106 hK106)
    have hOy := H4b.out.kept H8.out.2 (by have := HsW.out; have := HbW1.out.size; omega)
    go_wp2_with (first
      | (refine wpList_load_out rfl _ rfl w1.heap.size _ _ rfl H8.out.1 ?_)
      | (refine wpList_store_out rfl _ _ rfl (w.heap.size + 2) _ _ _ _ rfl rfl hOy ?_; intro w9 hO9 ho9; have H9 := Lib.hid (And.intro hO9 ho9); clear hO9 ho9)
      | fail)
    exact bodyPost_ret (results_out rfl _ _ (w.heap.size + 2) _ _ rfl H9.out.1) rfl ⟨rfl, H9.out.2.below (HbW2.out.trans (H8.out.2.below (by have := HbW.out.size; have := HbW1.out.size; omega) HbW2.out.size)) (Nat.le_add_right _ _)⟩

theorem compare_ok : ∀ (n : Nat) (x : Vl), x.count ≤ n → CmpOk x
  | 0, x, h => absurd (Vl.count_pos x) (by omega)
  | n + 1, x, h => compare_step fun u hu => compare_ok n u (by have := counts_mem hu; have := cntd_counts x; omega)
theorem compare_any (x : Vl) : CmpOk x := compare_ok _ x (Nat.le_refl _)
theorem field_order (x y : Int) (w : World) : (Instr.field 44 (.agg #[.int .i64 x, .int .i64 y]) 1).run Try.prog w = .ok (.int .i64 y) w := by kernel_rfl
set_option maxHeartbeats 4000000 in
theorem rank_cmp (x y : Vl) (cs ds : List Value) (w : World) (hc : Vl.at w x cs) (hd : Vl.at w y ds) :
    Calls Try.prog 14 #[.agg cs.toArray, .agg ds.toArray] w fun e w' => e = .returned (.int .i64 (ord x y)) ∧ Below w.heap.size w w' := by
  obtain ⟨W, hW⟩ : ∃ W, W = (w.alloc (.cells cs.toArray 25)).alloc (.cells ds.toArray 25) := ⟨_, rfl⟩
  have hbW : Below w.heap.size w W := by rw [hW]; exact ((Below.refl _ _).alloc (Nat.le_refl _) _).alloc (by simp) _
  have hv1 : Val3 W w.heap.size 0 cs := by
    rw [hW]
    exact Val3.below (val3_in (World.alloc_heap_new w (.cells cs.toArray 25)) (at_len hc)) (B := w.heap.size + 1) (by omega) ((Below.refl _ _).alloc (by simp) _)
  have hv2 : Val3 W (w.heap.size + 1) 0 ds := by
    have h := World.alloc_heap_new (w.alloc (.cells cs.toArray 25)) (.cells ds.toArray 25)
    rw [World.size_alloc] at h
    rw [hW]
    exact val3_in h (at_len hd)
  have hcall := compare_any x y cs ds W (Vl.at_below hbW (Nat.le_refl _) _ _ hc) (Vl.at_below hbW (Nat.le_refl _) _ _ hd)
  have HbW := Lib.hid hbW
  obtain ⟨k1, z1, a1, len1, cap1, rfl⟩ := at_lit hc
  obtain ⟨k2, z2, a2, len2, cap2, rfl⟩ := at_lit hd
  clear hbW hc hd
  generalize longer x y = X at *
  generalize ord x y = Y at *
  have hfld := field_order
  go_enter Try.func14, Try.ntmps14
  go_upto_region 1 with fail
  rw [← hW]
  clear hW
  go_wp2_with (first
    | (refine wpList_load_val rfl _ rfl w.heap.size 0 _ rfl hv1 ?_)
    | (refine wpList_load_val rfl _ rfl (w.heap.size + 1) 0 _ rfl hv2 ?_)
    | (go_at_call 20; refine hcall.mono ?_; rintro e w1 ⟨rfl, hb1⟩; have HbW1 := Lib.hid hb1; clear hb1 hcall)
    | fail)
  go_ret
  exact ⟨rfl, HbW.out.trans (HbW1.out.mono HbW.out.size)⟩
end V
end Go.Proofs.Ytkekdfelcfoilaa
