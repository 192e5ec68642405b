/- The law RankTotal, walked: any three values of at most so many parts. -/
import Derived.Test.YtkekdfelcfoilaaRankLaw
namespace Go.Proofs.Ytkekdfelcfoilaa
namespace V
set_option maxRecDepth 100000
open Go.RowKit
set_option maxHeartbeats 32000000 in
theorem rankTotal_walk (x : Vl) (cs : List Value) (y : Vl) (ds : List Value) (z : Vl) (es : List Value) (w : World) (hx : Vl.at w x cs) (hy : Vl.at w y ds) (hz : Vl.at w z es) (hsx : x.count ≤ 1048576) (hsy : y.count ≤ 1048576) (hsz : z.count ≤ 1048576) :
    Calls Try.prog 5 #[.agg cs.toArray, .agg ds.toArray, .agg es.toArray] w fun e w' => e = .returned (.bool true) ∧ Below w.heap.size w w' := by
  obtain ⟨W, hW⟩ : ∃ W, W = ((w.alloc (.cells cs.toArray 25)).alloc (.cells ds.toArray 25)).alloc (.cells es.toArray 25) := ⟨_, rfl⟩
  have hbW : Below w.heap.size w W := by rw [hW]; exact ((((Below.refl _ _).alloc (Nat.le_refl _) _).alloc (by simp) _).alloc (by simp; omega) _)
  have hsW : W.heap.size = w.heap.size + 3 := by rw [hW]; simp
  have hxx : Val3 W w.heap.size 0 cs := by
    have h := World.alloc_heap_new w (.cells cs.toArray 25)
    rw [hW]
    exact Val3.below (val3_in h (at_len hx)) (B := w.heap.size + 1) (by omega) (((Below.refl _ _).alloc (by first | (simp; done) | (simp; omega)) _).alloc (by first | (simp; done) | (simp; omega)) _)
  have hxy : Val3 W (w.heap.size + 1) 0 ds := by
    have h := World.alloc_heap_new (w.alloc (.cells cs.toArray 25)) (.cells ds.toArray 25)
    rw [World.size_alloc] at h
    rw [hW]
    exact Val3.below (val3_in h (at_len hy)) (B := w.heap.size + 2) (by omega) ((Below.refl _ _).alloc (by first | (simp; done) | (simp; omega)) _)
  have hxz : Val3 W (w.heap.size + 2) 0 es := by
    have h := World.alloc_heap_new ((w.alloc (.cells cs.toArray 25)).alloc (.cells ds.toArray 25)) (.cells es.toArray 25)
    rw [World.size_alloc, World.size_alloc] at h
    rw [hW]
    exact (val3_in h (at_len hz))
  have HXx : Hid (∀ w', Below W.heap.size W w' → Val3 w' w.heap.size 0 cs) := Lib.hid fun w' h => Val3.below hxx (by omega) h
  have HAx : Hid (∀ w', Below W.heap.size W w' → Vl.at w' x cs) := Lib.hid fun w' h => Vl.at_below (hbW.trans (h.mono hbW.size)) (Nat.le_refl _) _ _ hx
  have HXy : Hid (∀ w', Below W.heap.size W w' → Val3 w' (w.heap.size + 1) 0 ds) := Lib.hid fun w' h => Val3.below hxy (by omega) h
  have HAy : Hid (∀ w', Below W.heap.size W w' → Vl.at w' y ds) := Lib.hid fun w' h => Vl.at_below (hbW.trans (h.mono hbW.size)) (Nat.le_refl _) _ _ hy
  have HXz : Hid (∀ w', Below W.heap.size W w' → Val3 w' (w.heap.size + 2) 0 es) := Lib.hid fun w' h => Val3.below hxz (by omega) h
  have HAz : Hid (∀ w', Below W.heap.size W w' → Vl.at w' z es) := Lib.hid fun w' h => Vl.at_below (hbW.trans (h.mono hbW.size)) (Nat.le_refl _) _ _ hz
  have HbW := Lib.hid hbW
  have HsW := Lib.hid hsW
  clear hbW hsW hxx hxy hxz
  have Haw : Hid (∀ w', Below W.heap.size W w' → Calls Try.prog 8 #[] w' fun e w' => e = .returned (.bool true) ∧ Below W.heap.size W w') := Lib.hid fun w' h => by
    refine (awake13_any w').mono ?_
    rintro e w3 ⟨rfl, hb⟩
    exact ⟨rfl, h.trans (hb.mono h.size)⟩
  have Hwidex : Hid (∀ w', Below W.heap.size W w' → Calls Try.prog 15 #[.agg cs.toArray, .int .i64 20] w' fun e w' => e = .returned (.bool (wideN 20 x)) ∧ Below W.heap.size W w') := Lib.hid fun w' h => by
    refine (wide_any 20 x cs w' (by decide) (HAx.out _ h)).mono ?_
    rintro e w3 ⟨rfl, hb⟩
    exact ⟨rfl, h.trans (hb.mono h.size)⟩
  have Hwidey : Hid (∀ w', Below W.heap.size W w' → Calls Try.prog 15 #[.agg ds.toArray, .int .i64 20] w' fun e w' => e = .returned (.bool (wideN 20 y)) ∧ Below W.heap.size W w') := Lib.hid fun w' h => by
    refine (wide_any 20 y ds w' (by decide) (HAy.out _ h)).mono ?_
    rintro e w3 ⟨rfl, hb⟩
    exact ⟨rfl, h.trans (hb.mono h.size)⟩
  have Hwidez : Hid (∀ w', Below W.heap.size W w' → Calls Try.prog 15 #[.agg es.toArray, .int .i64 20] w' fun e w' => e = .returned (.bool (wideN 20 z)) ∧ Below W.heap.size W w') := Lib.hid fun w' h => by
    refine (wide_any 20 z es w' (by decide) (HAz.out _ h)).mono ?_
    rintro e w3 ⟨rfl, hb⟩
    exact ⟨rfl, h.trans (hb.mono h.size)⟩
  have Hcxy : Hid (∀ w', Below W.heap.size W w' → Calls Try.prog 14 #[.agg cs.toArray, .agg ds.toArray] w' fun e w2 => e = .returned (.int .i64 (ord x y)) ∧ Below w'.heap.size w' w2) := Lib.hid fun w' h => rank_cmp x y cs ds w' (HAx.out _ h) (HAy.out _ h)
  have Hcyz : Hid (∀ w', Below W.heap.size W w' → Calls Try.prog 14 #[.agg ds.toArray, .agg es.toArray] w' fun e w2 => e = .returned (.int .i64 (ord y z)) ∧ Below w'.heap.size w' w2) := Lib.hid fun w' h => rank_cmp y z ds es w' (HAy.out _ h) (HAz.out _ h)
  have Hcxz : Hid (∀ w', Below W.heap.size W w' → Calls Try.prog 14 #[.agg cs.toArray, .agg es.toArray] w' fun e w2 => e = .returned (.int .i64 (ord x z)) ∧ Below w'.heap.size w' w2) := Lib.hid fun w' h => rank_cmp x z cs es w' (HAx.out _ h) (HAz.out _ h)
  have Hcyx : Hid (∀ w', Below W.heap.size W w' → Calls Try.prog 14 #[.agg ds.toArray, .agg cs.toArray] w' fun e w2 => e = .returned (.int .i64 (ord y x)) ∧ Below w'.heap.size w' w2) := Lib.hid fun w' h => rank_cmp y x ds cs w' (HAy.out _ h) (HAx.out _ h)
  have Hcxx : Hid (∀ w', Below W.heap.size W w' → Calls Try.prog 14 #[.agg cs.toArray, .agg cs.toArray] w' fun e w2 => e = .returned (.int .i64 (ord x x)) ∧ Below w'.heap.size w' w2) := Lib.hid fun w' h => rank_cmp x x cs cs w' (HAx.out _ h) (HAx.out _ h)
  have HT := Lib.hid (ord_third (x := x) (y := y) (z := z) hsx hsy hsz)
  have HT2 := Lib.hid (ord_third (x := z) (y := y) (z := x) hsz hsy hsx)
  have HF : Hid (ord z y = -ord y z ∧ ord y x = -ord x y ∧ ord z x = -ord x z) := Lib.hid ⟨ord_turn hsy hsz, ord_turn hsx hsy, ord_turn hsx hsz⟩
  have HV : Hid (Tri (ord x y) ∧ Tri (ord y z) ∧ Tri (ord x z)) := Lib.hid ⟨ord_any x y, ord_any y z, ord_any x z⟩
  rw [ord_turn hsx hsy] at Hcyx
  rw [ord_self] at Hcxx
  have HTz : Hid (Three (-ord y z) (-ord x y) (-ord x z)) := Lib.hid (by have h := HT2.out; rw [HF.out.1, HF.out.2.1, HF.out.2.2] at h; exact h)
  clear HT2 HF
  generalize ord x y = X at *
  generalize ord y z = Y at *
  generalize ord x z = Z at *
  obtain ⟨k1, z1, a1, len1, cap1, rfl⟩ := at_lit hx
  obtain ⟨k2, z2, a2, len2, cap2, rfl⟩ := at_lit hy
  obtain ⟨k3, z3, a3, len3, cap3, rfl⟩ := at_lit hz
  clear hx hy hz hsx hsy hsz
  cases B0 : wideN 20 x with
  | true =>
    rw [B0] at Hwidex
    go_enter Try.func5, Try.ntmps5
    go_upto_region 1 with fail
    rw [← hW]
    clear hW
    go_wp2_with (first
      | (go_at_call 8; refine (Haw.out _ (Below.refl _ _)).mono ?_; rintro e W1 ⟨rfl, hb1⟩; have q0x := HXx.out _ hb1; have call0 := Hwidex.out _ hb1; clear hb1)
      | (refine wpList_load_val rfl _ rfl w.heap.size 0 _ rfl q0x ?_)
      | (go_at_call 15; refine call0.mono ?_; clear call0; rintro e W2 ⟨rfl, hb2⟩; clear q0x; have Hb2 := Lib.hid hb2; clear hb2)
      | fail)
    go_ret
    exact ⟨rfl, HbW.out.trans (Hb2.out.mono HbW.out.size)⟩
  | false =>
  rw [B0] at Hwidex
  cases B1 : wideN 20 y with
  | true =>
    rw [B1] at Hwidey
    go_enter Try.func5, Try.ntmps5
    go_upto_region 1 with fail
    rw [← hW]
    clear hW
    go_wp2_with (first
      | (go_at_call 8; refine (Haw.out _ (Below.refl _ _)).mono ?_; rintro e W1 ⟨rfl, hb1⟩; have q0x := HXx.out _ hb1; have call0 := Hwidex.out _ hb1; clear hb1)
      | (refine wpList_load_val rfl _ rfl w.heap.size 0 _ rfl q0x ?_)
      | (go_at_call 15; refine call0.mono ?_; clear call0; rintro e W2 ⟨rfl, hb2⟩; clear q0x; have q1y := HXy.out _ hb2; have call1 := Hwidey.out _ hb2; clear hb2)
      | (refine wpList_load_val_want rfl _ rfl (w.heap.size + 1) 0 _ rfl q1y ?_)
      | (go_at_call 15; refine call1.mono ?_; clear call1; rintro e W3 ⟨rfl, hb3⟩; clear q1y; have Hb3 := Lib.hid hb3; clear hb3)
      | fail)
    go_ret
    exact ⟨rfl, HbW.out.trans (Hb3.out.mono HbW.out.size)⟩
  | false =>
  rw [B1] at Hwidey
  cases B2 : wideN 20 z with
  | true =>
    rw [B2] at Hwidez
    go_enter Try.func5, Try.ntmps5
    go_upto_region 1 with fail
    rw [← hW]
    clear hW
    go_wp2_with (first
      | (go_at_call 8; refine (Haw.out _ (Below.refl _ _)).mono ?_; rintro e W1 ⟨rfl, hb1⟩; have q0x := HXx.out _ hb1; have call0 := Hwidex.out _ hb1; clear hb1)
      | (refine wpList_load_val rfl _ rfl w.heap.size 0 _ rfl q0x ?_)
      | (go_at_call 15; refine call0.mono ?_; clear call0; rintro e W2 ⟨rfl, hb2⟩; clear q0x; have q1y := HXy.out _ hb2; have call1 := Hwidey.out _ hb2; clear hb2)
      | (refine wpList_load_val_want rfl _ rfl (w.heap.size + 1) 0 _ rfl q1y ?_)
      | (go_at_call 15; refine call1.mono ?_; clear call1; rintro e W3 ⟨rfl, hb3⟩; clear q1y; have q2z := HXz.out _ hb3; have call2 := Hwidez.out _ hb3; clear hb3)
      | (refine wpList_load_val_want rfl _ rfl (w.heap.size + 2) 0 _ rfl q2z ?_)
      | (go_at_call 15; refine call2.mono ?_; clear call2; rintro e W4 ⟨rfl, hb4⟩; clear q2z; have Hb4 := Lib.hid hb4; clear hb4)
      | fail)
    go_ret
    exact ⟨rfl, HbW.out.trans (Hb4.out.mono HbW.out.size)⟩
  | false =>
  rw [B2] at Hwidez
  go_enter Try.func5, Try.ntmps5
  go_upto_region 1 with fail
  rw [← hW]
  clear hW
  go_upto_region 5 with (first
    | (go_at_call 8; refine (Haw.out _ (Below.refl _ _)).mono ?_; rintro e W1 ⟨rfl, hb1⟩; have q0x := HXx.out _ hb1; have call0 := Hwidex.out _ hb1; clear hb1)
    | (refine wpList_load_val rfl _ rfl w.heap.size 0 _ rfl q0x ?_)
    | (go_at_call 15; refine call0.mono ?_; clear call0; rintro e W2 ⟨rfl, hb2⟩; clear q0x; have q1y := HXy.out _ hb2; have call1 := Hwidey.out _ hb2; clear hb2)
    | (refine wpList_load_val_want rfl _ rfl (w.heap.size + 1) 0 _ rfl q1y ?_)
    | (go_at_call 15; refine call1.mono ?_; clear call1; rintro e W3 ⟨rfl, hb3⟩; clear q1y; have q2z := HXz.out _ hb3; have call2 := Hwidez.out _ hb3; clear hb3)
    | (refine wpList_load_val_want rfl _ rfl (w.heap.size + 2) 0 _ rfl q2z ?_)
    | (go_at_call 15; refine call2.mono ?_; clear call2; rintro e W4 ⟨rfl, hb4⟩; clear q2z; have Hb4 := Lib.hid hb4; clear hb4)
    | fail)
  obtain ⟨wd, hwd⟩ : ∃ wd, wd = W4.drew := ⟨_, rfl⟩
  have hBd : Below W4.heap.size W4 wd := by rw [hwd]; exact (Below.refl _ _).drew
  have hKd : KeptR W4.heap.size W4 wd := KeptR.of_below hBd
  have hNE : Nonempty (HeldW (KeptR W4.heap.size W4)) := ⟨⟨wd, hKd⟩⟩
  refine wp_region_hold (KeptR W4.heap.size W4) (.plain 0 (.plain 1 (.plain 3 (.plain 4 (.plain 6 (.plain 7 (.sole 2 (.sole 5 (.sole 8 (.plain 9 (.plain 10 (.plain 11 .done)))))))))))) (by rw [← hwd]; exact hKd) (by kernel_rfl) (by kernel_rfl) (fun c a d v w h => by cases d <;> exact h) ?_
  rw [← hwd]
  clear hwd
  repeat (first
      | (refine' hold_skip ?_ ?_ ?_
         rotate_left 1
         · simp only [List.getElem?_toArray, List.getElem?_cons_zero, List.getElem?_cons_succ]; exact rfl
         · exact rfl
         simp only [Act.put, List.setIfInBounds_toArray, List.set_cons_zero, List.set_cons_succ])
      | (refine' hold_want ?_ ?_ (fun J hJ => ?_)
         rotate_left 1
         · simp only [List.getElem?_toArray, List.getElem?_cons_zero, List.getElem?_cons_succ]; exact rfl
         · exact rfl
         first
         | (refine quiet_load_val _ rfl w.heap.size 0 _ rfl (fun w' ⟨L, hL⟩ => hL ▸ HXx.out _ (Hb4.out.trans (L.ok.low.mono Hb4.out.size))) ?_; refine hJ _ ?_; clear hJ J; try simp only [Act.put, List.setIfInBounds_toArray, List.set_cons_zero, List.set_cons_succ])
         | (refine quiet_load_val _ rfl (w.heap.size + 1) 0 _ rfl (fun w' ⟨L, hL⟩ => hL ▸ HXy.out _ (Hb4.out.trans (L.ok.low.mono Hb4.out.size))) ?_; refine hJ _ ?_; clear hJ J; try simp only [Act.put, List.setIfInBounds_toArray, List.set_cons_zero, List.set_cons_succ])
         | (refine quiet_load_val _ rfl (w.heap.size + 2) 0 _ rfl (fun w' ⟨L, hL⟩ => hL ▸ HXz.out _ (Hb4.out.trans (L.ok.low.mono Hb4.out.size))) ?_; refine hJ _ ?_; clear hJ J; try simp only [Act.put, List.setIfInBounds_toArray, List.set_cons_zero, List.set_cons_succ])
         | (refine quiet_extract _ _ rfl _ _ rfl rfl ?_; refine hJ _ ?_; clear hJ J; try simp only [Act.put, List.setIfInBounds_toArray, List.set_cons_zero, List.set_cons_succ])
         | (go_big_quiet_op; refine hJ _ ?_; clear hJ J; try simp only [Act.put, List.setIfInBounds_toArray, List.set_cons_zero, List.set_cons_succ])))
  refine' hold_sole ?_ ?_ (fun J hJ => ?_)
  rotate_left 1
  · simp only [List.getElem?_toArray, List.getElem?_cons_zero, List.getElem?_cons_succ]; exact rfl
  · exact rfl
  go_simp
  refine (Hcxy.out _ (Hb4.out.trans (hKd.low.mono Hb4.out.size))).mono ?_
  rintro e w21 ⟨rfl, hb21⟩
  have hK21 : KeptR W4.heap.size W4 w21 := hKd.trans (KeptR.of_below hb21)
  refine hJ _ _ hK21 ?_
  clear hJ J hb21
  try simp only [Act.put, List.setIfInBounds_toArray, List.set_cons_zero, List.set_cons_succ]
  refine' hold_sole ?_ ?_ (fun J hJ => ?_)
  rotate_left 1
  · simp only [List.getElem?_toArray, List.getElem?_cons_zero, List.getElem?_cons_succ]; exact rfl
  · exact rfl
  go_simp
  refine (Hcyz.out _ (Hb4.out.trans (hK21.low.mono Hb4.out.size))).mono ?_
  rintro e w22 ⟨rfl, hb22⟩
  have hK22 : KeptR W4.heap.size W4 w22 := hK21.trans (KeptR.of_below hb22)
  refine hJ _ _ hK22 ?_
  clear hJ J hb22
  try simp only [Act.put, List.setIfInBounds_toArray, List.set_cons_zero, List.set_cons_succ]
  refine' hold_sole ?_ ?_ (fun J hJ => ?_)
  rotate_left 1
  · simp only [List.getElem?_toArray, List.getElem?_cons_zero, List.getElem?_cons_succ]; exact rfl
  · exact rfl
  go_simp
  refine (Hcxz.out _ (Hb4.out.trans (hK22.low.mono Hb4.out.size))).mono ?_
  rintro e w23 ⟨rfl, hb23⟩
  have hK23 : KeptR W4.heap.size W4 w23 := hK22.trans (KeptR.of_below hb23)
  refine hJ _ _ hK23 ?_
  clear hJ J hb23
  try simp only [Act.put, List.setIfInBounds_toArray, List.set_cons_zero, List.set_cons_succ]
  repeat (first
      | (refine' hold_skip ?_ ?_ ?_
         rotate_left 1
         · simp only [List.getElem?_toArray, List.getElem?_cons_zero, List.getElem?_cons_succ]; exact rfl
         · exact rfl
         simp only [Act.put, List.setIfInBounds_toArray, List.set_cons_zero, List.set_cons_succ])
      | (refine' hold_want ?_ ?_ (fun J hJ => ?_)
         rotate_left 1
         · simp only [List.getElem?_toArray, List.getElem?_cons_zero, List.getElem?_cons_succ]; exact rfl
         · exact rfl
         first
         | (refine quiet_load_val _ rfl w.heap.size 0 _ rfl (fun w' ⟨L, hL⟩ => hL ▸ HXx.out _ (Hb4.out.trans (L.ok.low.mono Hb4.out.size))) ?_; refine hJ _ ?_; clear hJ J; try simp only [Act.put, List.setIfInBounds_toArray, List.set_cons_zero, List.set_cons_succ])
         | (refine quiet_load_val _ rfl (w.heap.size + 1) 0 _ rfl (fun w' ⟨L, hL⟩ => hL ▸ HXy.out _ (Hb4.out.trans (L.ok.low.mono Hb4.out.size))) ?_; refine hJ _ ?_; clear hJ J; try simp only [Act.put, List.setIfInBounds_toArray, List.set_cons_zero, List.set_cons_succ])
         | (refine quiet_load_val _ rfl (w.heap.size + 2) 0 _ rfl (fun w' ⟨L, hL⟩ => hL ▸ HXz.out _ (Hb4.out.trans (L.ok.low.mono Hb4.out.size))) ?_; refine hJ _ ?_; clear hJ J; try simp only [Act.put, List.setIfInBounds_toArray, List.set_cons_zero, List.set_cons_succ])
         | (refine quiet_extract _ _ rfl _ _ rfl rfl ?_; refine hJ _ ?_; clear hJ J; try simp only [Act.put, List.setIfInBounds_toArray, List.set_cons_zero, List.set_cons_succ])
         | (go_big_quiet_op; refine hJ _ ?_; clear hJ J; try simp only [Act.put, List.setIfInBounds_toArray, List.set_cons_zero, List.set_cons_succ])))
  refine hold_done ?_
  have Hb5 := Lib.hid (Hb4.out.trans (hK23.low.mono Hb4.out.size))
  go_wp2_with (first
    | (refine wpList_load_val rfl _ rfl w.heap.size 0 _ rfl (HXx.out _ Hb5.out) ?_)
    | (refine wpList_load_val_want rfl _ rfl w.heap.size 0 _ rfl (HXx.out _ Hb5.out) ?_)
    | (refine wpList_load_val rfl _ rfl (w.heap.size + 1) 0 _ rfl (HXy.out _ Hb5.out) ?_)
    | (refine wpList_load_val_want rfl _ rfl (w.heap.size + 1) 0 _ rfl (HXy.out _ Hb5.out) ?_)
    | fail)
  refine (Hcyx.out _ Hb5.out).mono ?_
  rintro e W6 ⟨rfl, hb6⟩
  have Hb6 := Lib.hid (Hb5.out.trans (hb6.mono Hb5.out.size))
  clear hb6
  have hng := tri_neg HV.out.1
  go_wp2_with (first
    | (refine wpList_load_val rfl _ rfl w.heap.size 0 _ rfl (HXx.out _ Hb6.out) ?_)
    | (refine wpList_load_val_want rfl _ rfl w.heap.size 0 _ rfl (HXx.out _ Hb6.out) ?_)
    | fail)
  refine (Hcxx.out _ Hb6.out).mono ?_
  rintro e W7 ⟨rfl, hb7⟩
  have Hb7 := Lib.hid (Hb6.out.trans (hb7.mono Hb6.out.size))
  clear hb7 hng
  obtain ⟨vx, vy, vz⟩ := HV.out
  obtain ⟨l1, l2, l3, l4⟩ := HT.out
  obtain ⟨m1, m2, m3, m4⟩ := HTz.out
  rcases vx with rfl | rfl | rfl <;> rcases vy with rfl | rfl | rfl <;> rcases vz with rfl | rfl | rfl <;> first
    | (exfalso; revert l1 l2 l3 l4 m1 m2 m3 m4; decide)
    | (clear l1 l2 l3 l4 m1 m2 m3 m4 HT HTz HV
       go_wp2_with fail
       go_ret
       exact ⟨rfl, HbW.out.trans (Hb7.out.mono HbW.out.size)⟩)
end V
end Go.Proofs.Ytkekdfelcfoilaa
