/- The law EagerTotal, walked: any three values of at most so many parts. -/
import Derived.Test.YtblgjcolmaidlaaEagerAwake
import Derived.Test.YtblgjcolmaidlaaValWide
namespace Go.Proofs.Ytblgjcolmaidlaa
namespace V
set_option maxRecDepth 100000
open Go.RowKit
set_option maxHeartbeats 32000000 in
theorem eagerTotal_walk (x : Vl) (cs : List Value) (y : Vl) (ds : List Value) (z : Vl) (es : List Value) (w : World) (hx : Vl.at w x cs) (hy : Vl.at w y ds) (hz : Vl.at w z es) (hsx : x.count ≤ 1048576) (hsy : y.count ≤ 1048576) (hsz : z.count ≤ 1048576) :
    Calls Try.prog 5 #[.agg cs.toArray, .agg ds.toArray, .agg es.toArray] w fun e w' => e = .returned (.bool true) ∧ Below w.heap.size w w' := by
  obtain ⟨W, hW⟩ : ∃ W, W = ((w.alloc (.cells cs.toArray 25)).alloc (.cells ds.toArray 25)).alloc (.cells es.toArray 25) := ⟨_, rfl⟩
  have hbW : Below w.heap.size w W := by rw [hW]; exact ((((Below.refl _ _).alloc (Nat.le_refl _) _).alloc (by simp) _).alloc (by simp; omega) _)
  have hsW : W.heap.size = w.heap.size + 3 := by rw [hW]; simp
  have hxx : Val3 W w.heap.size 0 cs := by
    have h := World.alloc_heap_new w (.cells cs.toArray 25)
    rw [hW]
    exact Val3.below (val3_in h (at_len hx)) (B := w.heap.size + 1) (by omega) (((Below.refl _ _).alloc (by first | (simp; done) | (simp; omega)) _).alloc (by first | (simp; done) | (simp; omega)) _)
  have hxy : Val3 W (w.heap.size + 1) 0 ds := by
    have h := World.alloc_heap_new (w.alloc (.cells cs.toArray 25)) (.cells ds.toArray 25)
    rw [World.size_alloc] at h
    rw [hW]
    exact Val3.below (val3_in h (at_len hy)) (B := w.heap.size + 2) (by omega) ((Below.refl _ _).alloc (by first | (simp; done) | (simp; omega)) _)
  have hxz : Val3 W (w.heap.size + 2) 0 es := by
    have h := World.alloc_heap_new ((w.alloc (.cells cs.toArray 25)).alloc (.cells ds.toArray 25)) (.cells es.toArray 25)
    rw [World.size_alloc, World.size_alloc] at h
    rw [hW]
    exact (val3_in h (at_len hz))
  have HXx : Hid (∀ w', Below W.heap.size W w' → Val3 w' w.heap.size 0 cs) := Lib.hid fun w' h => Val3.below hxx (by omega) h
  have HAx : Hid (∀ w', Below W.heap.size W w' → Vl.at w' x cs) := Lib.hid fun w' h => Vl.at_below (hbW.trans (h.mono hbW.size)) (Nat.le_refl _) _ _ hx
  have HXy : Hid (∀ w', Below W.heap.size W w' → Val3 w' (w.heap.size + 1) 0 ds) := Lib.hid fun w' h => Val3.below hxy (by omega) h
  have HAy : Hid (∀ w', Below W.heap.size W w' → Vl.at w' y ds) := Lib.hid fun w' h => Vl.at_below (hbW.trans (h.mono hbW.size)) (Nat.le_refl _) _ _ hy
  have HXz : Hid (∀ w', Below W.heap.size W w' → Val3 w' (w.heap.size + 2) 0 es) := Lib.hid fun w' h => Val3.below hxz (by omega) h
  have HAz : Hid (∀ w', Below W.heap.size W w' → Vl.at w' z es) := Lib.hid fun w' h => Vl.at_below (hbW.trans (h.mono hbW.size)) (Nat.le_refl _) _ _ hz
  have HbW := Lib.hid hbW
  have HsW := Lib.hid hsW
  clear hbW hsW hxx hxy hxz
  have Haw : Hid (∀ w', Below W.heap.size W w' → Calls Try.prog 7 #[] w' fun e w' => e = .returned (.bool true) ∧ Below W.heap.size W w') := Lib.hid fun w' h => by
    refine (awake14_any w').mono ?_
    rintro e w3 ⟨rfl, hb⟩
    exact ⟨rfl, h.trans (hb.mono h.size)⟩
  have Hwidex : Hid (∀ w', Below W.heap.size W w' → Calls Try.prog 14 #[.agg cs.toArray, .int .i64 20] w' fun e w' => e = .returned (.bool (wideN 20 x)) ∧ Below W.heap.size W w') := Lib.hid fun w' h => by
    refine (wide_any 20 x cs w' (by decide) (HAx.out _ h)).mono ?_
    rintro e w3 ⟨rfl, hb⟩
    exact ⟨rfl, h.trans (hb.mono h.size)⟩
  have Hwidey : Hid (∀ w', Below W.heap.size W w' → Calls Try.prog 14 #[.agg ds.toArray, .int .i64 20] w' fun e w' => e = .returned (.bool (wideN 20 y)) ∧ Below W.heap.size W w') := Lib.hid fun w' h => by
    refine (wide_any 20 y ds w' (by decide) (HAy.out _ h)).mono ?_
    rintro e w3 ⟨rfl, hb⟩
    exact ⟨rfl, h.trans (hb.mono h.size)⟩
  have Hwidez : Hid (∀ w', Below W.heap.size W w' → Calls Try.prog 14 #[.agg es.toArray, .int .i64 20] w' fun e w' => e = .returned (.bool (wideN 20 z)) ∧ Below W.heap.size W w') := Lib.hid fun w' h => by
    refine (wide_any 20 z es w' (by decide) (HAz.out _ h)).mono ?_
    rintro e w3 ⟨rfl, hb⟩
    exact ⟨rfl, h.trans (hb.mono h.size)⟩
  have Hcxy : Hid (∀ w', Below W.heap.size W w' → Calls Try.prog 11 #[.agg cs.toArray, .agg ds.toArray] w' fun e w2 => e = .returned (.int .i64 (eord x y)) ∧ Below w'.heap.size w' w2) := Lib.hid fun w' h => eager_cmp x y cs ds w' (HAx.out _ h) (HAy.out _ h) (fit_up hsx) (fit_up hsy)
  have Hcyz : Hid (∀ w', Below W.heap.size W w' → Calls Try.prog 11 #[.agg ds.toArray, .agg es.toArray] w' fun e w2 => e = .returned (.int .i64 (eord y z)) ∧ Below w'.heap.size w' w2) := Lib.hid fun w' h => eager_cmp y z ds es w' (HAy.out _ h) (HAz.out _ h) (fit_up hsy) (fit_up hsz)
  have Hcxz : Hid (∀ w', Below W.heap.size W w' → Calls Try.prog 11 #[.agg cs.toArray, .agg es.toArray] w' fun e w2 => e = .returned (.int .i64 (eord x z)) ∧ Below w'.heap.size w' w2) := Lib.hid fun w' h => eager_cmp x z cs es w' (HAx.out _ h) (HAz.out _ h) (fit_up hsx) (fit_up hsz)
  have Hcyx : Hid (∀ w', Below W.heap.size W w' → Calls Try.prog 11 #[.agg ds.toArray, .agg cs.toArray] w' fun e w2 => e = .returned (.int .i64 (eord y x)) ∧ Below w'.heap.size w' w2) := Lib.hid fun w' h => eager_cmp y x ds cs w' (HAy.out _ h) (HAx.out _ h) (fit_up hsy) (fit_up hsx)
  have Hpx : Hid (∀ w', Below W.heap.size W w' → Calls Try.prog 18 #[.agg cs.toArray] w' fun e w2 => e = .returned (.string (putS x)) ∧ Below w'.heap.size w' w2) := Lib.hid fun w' h => put_s (HAx.out _ h) (fit_up hsx)
  have Hpy : Hid (∀ w', Below W.heap.size W w' → Calls Try.prog 18 #[.agg ds.toArray] w' fun e w2 => e = .returned (.string (putS y)) ∧ Below w'.heap.size w' w2) := Lib.hid fun w' h => put_s (HAy.out _ h) (fit_up hsy)
  have Hap : Hid (∀ w', Below W.heap.size W w' → Calls Try.prog 12 #[.agg cs.toArray, .agg ds.toArray] w' fun e w2 => e = .returned (.int .i64 (eapart x y)) ∧ Below w'.heap.size w' w2) := Lib.hid fun w' h => eager_apart x y cs ds w' (HAx.out _ h) (HAy.out _ h) (fit_up hsx) (fit_up hsy)
  have HT : Hid (EThree (eord x y) (eord y z) (eord x z)) := Lib.hid (elex_three x.put y.put z.put)
  have HV : Hid (ETri (eord x y) ∧ ETri (eord y z) ∧ ETri (eord x z)) := Lib.hid ⟨elex_tri _ _, elex_tri _ _, elex_tri _ _⟩
  have HE : Hid (((putS x).toList == (putS y).toList) = decide (eord x y = 0)) := Lib.hid (by rw [eq_list, putS_nats, putS_nats]; exact decide_eq_decide.2 elex_iff.symm)
  have HP : Hid ((eapart x y == -1) = decide (eord x y = 0)) := Lib.hid (by rw [Bool.eq_iff_iff, beq_iff_eq, decide_eq_true_eq, apartL_iff, elex_iff])
  rw [show eord y x = -eord x y from elex_turn _ _] at Hcyx
  generalize eord x y = X at *
  generalize eord y z = Y at *
  generalize eord x z = Z at *
  generalize eapart x y = A at *
  generalize putS x = tx at *
  generalize putS y = ty at *
  obtain ⟨k1, z1, a1, len1, cap1, rfl⟩ := at_lit hx
  obtain ⟨k2, z2, a2, len2, cap2, rfl⟩ := at_lit hy
  obtain ⟨k3, z3, a3, len3, cap3, rfl⟩ := at_lit hz
  clear hx hy hz hsx hsy hsz
  cases B0 : wideN 20 x with
  | true =>
    rw [B0] at Hwidex
    go_enter Try.func5, Try.ntmps5
    go_upto_region 1 with fail
    rw [← hW]
    clear hW
    go_wp2_with (first
      | (go_at_call 7; refine (Haw.out _ (Below.refl _ _)).mono ?_; rintro e W1 ⟨rfl, hb1⟩; have q0x := HXx.out _ hb1; have call0 := Hwidex.out _ hb1; clear hb1)
      | (refine wpList_load_val rfl _ rfl w.heap.size 0 _ rfl q0x ?_)
      | (go_at_call 14; refine call0.mono ?_; clear call0; rintro e W2 ⟨rfl, hb2⟩; clear q0x; have Hb2 := Lib.hid hb2; clear hb2)
      | fail)
    go_ret
    exact ⟨rfl, HbW.out.trans (Hb2.out.mono HbW.out.size)⟩
  | false =>
  rw [B0] at Hwidex
  cases B1 : wideN 20 y with
  | true =>
    rw [B1] at Hwidey
    go_enter Try.func5, Try.ntmps5
    go_upto_region 1 with fail
    rw [← hW]
    clear hW
    go_wp2_with (first
      | (go_at_call 7; refine (Haw.out _ (Below.refl _ _)).mono ?_; rintro e W1 ⟨rfl, hb1⟩; have q0x := HXx.out _ hb1; have call0 := Hwidex.out _ hb1; clear hb1)
      | (refine wpList_load_val rfl _ rfl w.heap.size 0 _ rfl q0x ?_)
      | (go_at_call 14; refine call0.mono ?_; clear call0; rintro e W2 ⟨rfl, hb2⟩; clear q0x; have q1y := HXy.out _ hb2; have call1 := Hwidey.out _ hb2; clear hb2)
      | (refine wpList_load_val_want rfl _ rfl (w.heap.size + 1) 0 _ rfl q1y ?_)
      | (go_at_call 14; refine call1.mono ?_; clear call1; rintro e W3 ⟨rfl, hb3⟩; clear q1y; have Hb3 := Lib.hid hb3; clear hb3)
      | fail)
    go_ret
    exact ⟨rfl, HbW.out.trans (Hb3.out.mono HbW.out.size)⟩
  | false =>
  rw [B1] at Hwidey
  cases B2 : wideN 20 z with
  | true =>
    rw [B2] at Hwidez
    go_enter Try.func5, Try.ntmps5
    go_upto_region 1 with fail
    rw [← hW]
    clear hW
    go_wp2_with (first
      | (go_at_call 7; refine (Haw.out _ (Below.refl _ _)).mono ?_; rintro e W1 ⟨rfl, hb1⟩; have q0x := HXx.out _ hb1; have call0 := Hwidex.out _ hb1; clear hb1)
      | (refine wpList_load_val rfl _ rfl w.heap.size 0 _ rfl q0x ?_)
      | (go_at_call 14; refine call0.mono ?_; clear call0; rintro e W2 ⟨rfl, hb2⟩; clear q0x; have q1y := HXy.out _ hb2; have call1 := Hwidey.out _ hb2; clear hb2)
      | (refine wpList_load_val_want rfl _ rfl (w.heap.size + 1) 0 _ rfl q1y ?_)
      | (go_at_call 14; refine call1.mono ?_; clear call1; rintro e W3 ⟨rfl, hb3⟩; clear q1y; have q2z := HXz.out _ hb3; have call2 := Hwidez.out _ hb3; clear hb3)
      | (refine wpList_load_val_want rfl _ rfl (w.heap.size + 2) 0 _ rfl q2z ?_)
      | (go_at_call 14; refine call2.mono ?_; clear call2; rintro e W4 ⟨rfl, hb4⟩; clear q2z; have Hb4 := Lib.hid hb4; clear hb4)
      | fail)
    go_ret
    exact ⟨rfl, HbW.out.trans (Hb4.out.mono HbW.out.size)⟩
  | false =>
  rw [B2] at Hwidez
  go_enter Try.func5, Try.ntmps5
  go_upto_region 1 with fail
  rw [← hW]
  clear hW
  go_upto_region 5 with (first
    | (go_at_call 7; refine (Haw.out _ (Below.refl _ _)).mono ?_; rintro e W1 ⟨rfl, hb1⟩; have q0x := HXx.out _ hb1; have call0 := Hwidex.out _ hb1; clear hb1)
    | (refine wpList_load_val rfl _ rfl w.heap.size 0 _ rfl q0x ?_)
    | (go_at_call 14; refine call0.mono ?_; clear call0; rintro e W2 ⟨rfl, hb2⟩; clear q0x; have q1y := HXy.out _ hb2; have call1 := Hwidey.out _ hb2; clear hb2)
    | (refine wpList_load_val_want rfl _ rfl (w.heap.size + 1) 0 _ rfl q1y ?_)
    | (go_at_call 14; refine call1.mono ?_; clear call1; rintro e W3 ⟨rfl, hb3⟩; clear q1y; have q2z := HXz.out _ hb3; have call2 := Hwidez.out _ hb3; clear hb3)
    | (refine wpList_load_val_want rfl _ rfl (w.heap.size + 2) 0 _ rfl q2z ?_)
    | (go_at_call 14; refine call2.mono ?_; clear call2; rintro e W4 ⟨rfl, hb4⟩; clear q2z; have Hb4 := Lib.hid hb4; clear hb4)
    | fail)
  refine wp_region_later (W0 := W4) (Below.refl _ _) (by kernel_rfl) (by as_aux_lemma => kernel_rfl) ?_
  (go_big_quiet_want; refine quiet_load_val _ rfl w.heap.size 0 [.int .i64 k1, .int .u8 z1, .slice a1 len1 cap1] rfl (fun w' hw' => by obtain ⟨L, rfl⟩ := hw'; exact HXx.out _ (Hb4.out.trans (L.ok.mono Hb4.out.size))) ?_; go_big_quiet_on; try simp only [Act.put, List.setIfInBounds_toArray, List.set_cons_zero, List.set_cons_succ])
  (go_big_quiet_want; refine quiet_load_val _ rfl (w.heap.size + 1) 0 [.int .i64 k2, .int .u8 z2, .slice a2 len2 cap2] rfl (fun w' hw' => by obtain ⟨L, rfl⟩ := hw'; exact HXy.out _ (Hb4.out.trans (L.ok.mono Hb4.out.size))) ?_; go_big_quiet_on; try simp only [Act.put, List.setIfInBounds_toArray, List.set_cons_zero, List.set_cons_succ])
  go_big_quiet_step (exact Later.calls (Hcxy.out _ (Hb4.out.trans ((Later.ok _).mono Hb4.out.size))))
  (go_big_quiet_want; refine quiet_load_val _ rfl (w.heap.size + 1) 0 [.int .i64 k2, .int .u8 z2, .slice a2 len2 cap2] rfl (fun w' hw' => by obtain ⟨L, rfl⟩ := hw'; exact HXy.out _ (Hb4.out.trans (L.ok.mono Hb4.out.size))) ?_; go_big_quiet_on; try simp only [Act.put, List.setIfInBounds_toArray, List.set_cons_zero, List.set_cons_succ])
  (go_big_quiet_want; refine quiet_load_val _ rfl (w.heap.size + 2) 0 [.int .i64 k3, .int .u8 z3, .slice a3 len3 cap3] rfl (fun w' hw' => by obtain ⟨L, rfl⟩ := hw'; exact HXz.out _ (Hb4.out.trans (L.ok.mono Hb4.out.size))) ?_; go_big_quiet_on; try simp only [Act.put, List.setIfInBounds_toArray, List.set_cons_zero, List.set_cons_succ])
  go_big_quiet_step (exact Later.calls (Hcyz.out _ (Hb4.out.trans ((Later.ok _).mono Hb4.out.size))))
  (go_big_quiet_want; refine quiet_load_val _ rfl w.heap.size 0 [.int .i64 k1, .int .u8 z1, .slice a1 len1 cap1] rfl (fun w' hw' => by obtain ⟨L, rfl⟩ := hw'; exact HXx.out _ (Hb4.out.trans (L.ok.mono Hb4.out.size))) ?_; go_big_quiet_on; try simp only [Act.put, List.setIfInBounds_toArray, List.set_cons_zero, List.set_cons_succ])
  (go_big_quiet_want; refine quiet_load_val _ rfl (w.heap.size + 2) 0 [.int .i64 k3, .int .u8 z3, .slice a3 len3 cap3] rfl (fun w' hw' => by obtain ⟨L, rfl⟩ := hw'; exact HXz.out _ (Hb4.out.trans (L.ok.mono Hb4.out.size))) ?_; go_big_quiet_on; try simp only [Act.put, List.setIfInBounds_toArray, List.set_cons_zero, List.set_cons_succ])
  go_big_quiet_step (exact Later.calls (Hcxz.out _ (Hb4.out.trans ((Later.ok _).mono Hb4.out.size))))
  go_big_quiet_step (exact rfl)
  go_big_quiet_step (exact rfl)
  go_big_quiet_step (exact rfl)
  refine wpQuiet_nil ?_
  intro w' hw'
  obtain ⟨L', rfl⟩ := hw'
  have Hb5 := Lib.hid (Hb4.out.trans (L'.ok.mono Hb4.out.size))
  generalize L'.val = W5 at Hb5 ⊢
  clear L'
  go_step
  go_step
  obtain ⟨l1, l2⟩ := HT.out
  rcases HV.out.1 with rfl | rfl | rfl
  · by_cases hy : 0 < Y
    · have y1 : decide (Y > 0) = true := by simp; omega
      have y2 : decide (0 < Y) = true := by simp; omega
      clear hy l1 l2
      have e1 := HE.out
      have e2 := HP.out
      rw [show decide ((-1 : Int) = 0) = false from rfl] at e1 e2
      clear HE HP HT HV
      have Hneg : Hid (∀ w', Below W.heap.size W w' → Calls Try.prog 11 #[.agg ([.int .i64 k2, .int .u8 z2, .slice a2 len2 cap2]).toArray, .agg ([.int .i64 k1, .int .u8 z1, .slice a1 len1 cap1]).toArray] w' fun e w2 => e = .returned (.int .i64 (1)) ∧ Below w'.heap.size w' w2) := Lib.hid Hcyx.out
      clear Hcyx
      go_upto_region 6 with fail
      refine wp_region_later (W0 := W5) (Below.refl _ _) (by kernel_rfl) (by as_aux_lemma => kernel_rfl) ?_
      (go_big_quiet_want; refine quiet_load_val _ rfl (w.heap.size + 1) 0 [.int .i64 k2, .int .u8 z2, .slice a2 len2 cap2] rfl (fun w' hw' => by obtain ⟨L, rfl⟩ := hw'; exact HXy.out _ (Hb5.out.trans (L.ok.mono Hb5.out.size))) ?_; go_big_quiet_on; try simp only [Act.put, List.setIfInBounds_toArray, List.set_cons_zero, List.set_cons_succ])
      (go_big_quiet_want; refine quiet_load_val _ rfl w.heap.size 0 [.int .i64 k1, .int .u8 z1, .slice a1 len1 cap1] rfl (fun w' hw' => by obtain ⟨L, rfl⟩ := hw'; exact HXx.out _ (Hb5.out.trans (L.ok.mono Hb5.out.size))) ?_; go_big_quiet_on; try simp only [Act.put, List.setIfInBounds_toArray, List.set_cons_zero, List.set_cons_succ])
      go_big_quiet_step (exact Later.calls (Hneg.out _ (Hb5.out.trans ((Later.ok _).mono Hb5.out.size))))
      go_big_quiet_step (exact rfl)
      go_big_quiet_step (exact rfl)
      go_big_quiet_step (exact rfl)
      go_big_quiet_step (exact rfl)
      go_big_quiet_step (exact rfl)
      go_big_quiet_step (exact rfl)
      (go_big_quiet_want; refine quiet_load_val _ rfl w.heap.size 0 [.int .i64 k1, .int .u8 z1, .slice a1 len1 cap1] rfl (fun w' hw' => by obtain ⟨L, rfl⟩ := hw'; exact HXx.out _ (Hb5.out.trans (L.ok.mono Hb5.out.size))) ?_; go_big_quiet_on; try simp only [Act.put, List.setIfInBounds_toArray, List.set_cons_zero, List.set_cons_succ])
      go_big_quiet_step (exact Later.calls (Hpx.out _ (Hb5.out.trans ((Later.ok _).mono Hb5.out.size))))
      (go_big_quiet_want; refine quiet_load_val _ rfl (w.heap.size + 1) 0 [.int .i64 k2, .int .u8 z2, .slice a2 len2 cap2] rfl (fun w' hw' => by obtain ⟨L, rfl⟩ := hw'; exact HXy.out _ (Hb5.out.trans (L.ok.mono Hb5.out.size))) ?_; go_big_quiet_on; try simp only [Act.put, List.setIfInBounds_toArray, List.set_cons_zero, List.set_cons_succ])
      go_big_quiet_step (exact Later.calls (Hpy.out _ (Hb5.out.trans ((Later.ok _).mono Hb5.out.size))))
      go_big_quiet_step (exact rfl)
      go_big_quiet_step (exact rfl)
      go_big_quiet_step (exact rfl)
      go_big_quiet_step (exact rfl)
      go_big_quiet_step (exact rfl)
      go_big_quiet_step (exact rfl)
      go_big_quiet_step (exact rfl)
      go_big_quiet_step (exact rfl)
      go_big_quiet_step (exact rfl)
      go_big_quiet_step (exact rfl)
      go_big_quiet_step (exact rfl)
      go_big_quiet_skip
      go_big_quiet_skip
      go_big_quiet_step (exact rfl)
      go_big_quiet_step (exact rfl)
      go_big_quiet_step (exact rfl)
      go_big_quiet_step (exact rfl)
      go_big_quiet_step (exact rfl)
      go_big_quiet_step (exact rfl)
      go_big_quiet_step (exact rfl)
      go_big_quiet_step (exact rfl)
      go_big_quiet_step (exact rfl)
      go_big_quiet_step (exact rfl)
      go_big_quiet_skip
      go_big_quiet_skip
      go_big_quiet_step (exact rfl)
      go_big_quiet_step (exact rfl)
      go_big_quiet_step (exact rfl)
      (go_big_quiet_want; refine quiet_load_val _ rfl w.heap.size 0 [.int .i64 k1, .int .u8 z1, .slice a1 len1 cap1] rfl (fun w' hw' => by obtain ⟨L, rfl⟩ := hw'; exact HXx.out _ (Hb5.out.trans (L.ok.mono Hb5.out.size))) ?_; go_big_quiet_on; try simp only [Act.put, List.setIfInBounds_toArray, List.set_cons_zero, List.set_cons_succ])
      (go_big_quiet_want; refine quiet_load_val _ rfl (w.heap.size + 1) 0 [.int .i64 k2, .int .u8 z2, .slice a2 len2 cap2] rfl (fun w' hw' => by obtain ⟨L, rfl⟩ := hw'; exact HXy.out _ (Hb5.out.trans (L.ok.mono Hb5.out.size))) ?_; go_big_quiet_on; try simp only [Act.put, List.setIfInBounds_toArray, List.set_cons_zero, List.set_cons_succ])
      go_big_quiet_step (exact Later.calls (Hap.out _ (Hb5.out.trans ((Later.ok _).mono Hb5.out.size))))
      go_big_quiet_step (exact rfl)
      go_big_quiet_step (exact rfl)
      go_big_quiet_step (exact rfl)
      go_big_quiet_step (exact rfl)
      go_big_quiet_step (exact rfl)
      go_big_quiet_step (exact rfl)
      refine wpQuiet_nil ?_
      intro w' hw'
      obtain ⟨L', rfl⟩ := hw'
      go_step
      go_step
      go_wp2_with fail
      go_ret
      exact ⟨rfl, HbW.out.trans ((Hb5.out.trans (L'.ok.mono Hb5.out.size)).mono HbW.out.size)⟩
    · have hz : Z < 0 := by omega
      have y1 : decide (Y > 0) = false := by simp; omega
      have y2 : decide (0 < Y) = false := by simp; omega
      have z1' : decide (Z < 0) = true := by simp; omega
      have z2' : decide (Z ≤ 0) = true := by simp; omega
      clear hy hz l1 l2
      have e1 := HE.out
      have e2 := HP.out
      rw [show decide ((-1 : Int) = 0) = false from rfl] at e1 e2
      clear HE HP HT HV
      have Hneg : Hid (∀ w', Below W.heap.size W w' → Calls Try.prog 11 #[.agg ([.int .i64 k2, .int .u8 z2, .slice a2 len2 cap2]).toArray, .agg ([.int .i64 k1, .int .u8 z1, .slice a1 len1 cap1]).toArray] w' fun e w2 => e = .returned (.int .i64 (1)) ∧ Below w'.heap.size w' w2) := Lib.hid Hcyx.out
      clear Hcyx
      go_upto_region 6 with fail
      refine wp_region_later (W0 := W5) (Below.refl _ _) (by kernel_rfl) (by as_aux_lemma => kernel_rfl) ?_
      (go_big_quiet_want; refine quiet_load_val _ rfl (w.heap.size + 1) 0 [.int .i64 k2, .int .u8 z2, .slice a2 len2 cap2] rfl (fun w' hw' => by obtain ⟨L, rfl⟩ := hw'; exact HXy.out _ (Hb5.out.trans (L.ok.mono Hb5.out.size))) ?_; go_big_quiet_on; try simp only [Act.put, List.setIfInBounds_toArray, List.set_cons_zero, List.set_cons_succ])
      (go_big_quiet_want; refine quiet_load_val _ rfl w.heap.size 0 [.int .i64 k1, .int .u8 z1, .slice a1 len1 cap1] rfl (fun w' hw' => by obtain ⟨L, rfl⟩ := hw'; exact HXx.out _ (Hb5.out.trans (L.ok.mono Hb5.out.size))) ?_; go_big_quiet_on; try simp only [Act.put, List.setIfInBounds_toArray, List.set_cons_zero, List.set_cons_succ])
      go_big_quiet_step (exact Later.calls (Hneg.out _ (Hb5.out.trans ((Later.ok _).mono Hb5.out.size))))
      go_big_quiet_step (exact rfl)
      go_big_quiet_step (exact rfl)
      go_big_quiet_step (exact rfl)
      go_big_quiet_step (exact rfl)
      go_big_quiet_step (exact rfl)
      go_big_quiet_step (exact rfl)
      (go_big_quiet_want; refine quiet_load_val _ rfl w.heap.size 0 [.int .i64 k1, .int .u8 z1, .slice a1 len1 cap1] rfl (fun w' hw' => by obtain ⟨L, rfl⟩ := hw'; exact HXx.out _ (Hb5.out.trans (L.ok.mono Hb5.out.size))) ?_; go_big_quiet_on; try simp only [Act.put, List.setIfInBounds_toArray, List.set_cons_zero, List.set_cons_succ])
      go_big_quiet_step (exact Later.calls (Hpx.out _ (Hb5.out.trans ((Later.ok _).mono Hb5.out.size))))
      (go_big_quiet_want; refine quiet_load_val _ rfl (w.heap.size + 1) 0 [.int .i64 k2, .int .u8 z2, .slice a2 len2 cap2] rfl (fun w' hw' => by obtain ⟨L, rfl⟩ := hw'; exact HXy.out _ (Hb5.out.trans (L.ok.mono Hb5.out.size))) ?_; go_big_quiet_on; try simp only [Act.put, List.setIfInBounds_toArray, List.set_cons_zero, List.set_cons_succ])
      go_big_quiet_step (exact Later.calls (Hpy.out _ (Hb5.out.trans ((Later.ok _).mono Hb5.out.size))))
      go_big_quiet_step (exact rfl)
      go_big_quiet_step (exact rfl)
      go_big_quiet_step (exact rfl)
      go_big_quiet_step (exact rfl)
      go_big_quiet_step (exact rfl)
      go_big_quiet_step (exact rfl)
      go_big_quiet_step (exact rfl)
      go_big_quiet_step (exact rfl)
      go_big_quiet_step (exact rfl)
      go_big_quiet_step (exact rfl)
      go_big_quiet_step (exact rfl)
      go_big_quiet_step (exact rfl)
      go_big_quiet_step (exact rfl)
      go_big_quiet_step (exact rfl)
      go_big_quiet_step (exact rfl)
      go_big_quiet_step (exact rfl)
      go_big_quiet_step (exact rfl)
      go_big_quiet_step (exact rfl)
      go_big_quiet_step (exact rfl)
      go_big_quiet_step (exact rfl)
      go_big_quiet_step (exact rfl)
      go_big_quiet_step (exact rfl)
      go_big_quiet_step (exact rfl)
      go_big_quiet_step (exact rfl)
      go_big_quiet_step (exact rfl)
      go_big_quiet_step (exact rfl)
      go_big_quiet_step (exact rfl)
      go_big_quiet_step (exact rfl)
      (go_big_quiet_want; refine quiet_load_val _ rfl w.heap.size 0 [.int .i64 k1, .int .u8 z1, .slice a1 len1 cap1] rfl (fun w' hw' => by obtain ⟨L, rfl⟩ := hw'; exact HXx.out _ (Hb5.out.trans (L.ok.mono Hb5.out.size))) ?_; go_big_quiet_on; try simp only [Act.put, List.setIfInBounds_toArray, List.set_cons_zero, List.set_cons_succ])
      (go_big_quiet_want; refine quiet_load_val _ rfl (w.heap.size + 1) 0 [.int .i64 k2, .int .u8 z2, .slice a2 len2 cap2] rfl (fun w' hw' => by obtain ⟨L, rfl⟩ := hw'; exact HXy.out _ (Hb5.out.trans (L.ok.mono Hb5.out.size))) ?_; go_big_quiet_on; try simp only [Act.put, List.setIfInBounds_toArray, List.set_cons_zero, List.set_cons_succ])
      go_big_quiet_step (exact Later.calls (Hap.out _ (Hb5.out.trans ((Later.ok _).mono Hb5.out.size))))
      go_big_quiet_step (exact rfl)
      go_big_quiet_step (exact rfl)
      go_big_quiet_step (exact rfl)
      go_big_quiet_step (exact rfl)
      go_big_quiet_step (exact rfl)
      go_big_quiet_step (exact rfl)
      refine wpQuiet_nil ?_
      intro w' hw'
      obtain ⟨L', rfl⟩ := hw'
      go_step
      go_step
      go_wp2_with fail
      go_ret
      exact ⟨rfl, HbW.out.trans ((Hb5.out.trans (L'.ok.mono Hb5.out.size)).mono HbW.out.size)⟩
  · by_cases hy : 0 < Y
    · have y1 : decide (Y > 0) = true := by simp; omega
      have y2 : decide (0 < Y) = true := by simp; omega
      clear hy l1 l2
      have e1 := HE.out
      have e2 := HP.out
      rw [show decide ((0 : Int) = 0) = true from rfl] at e1 e2
      clear HE HP HT HV
      have Hneg : Hid (∀ w', Below W.heap.size W w' → Calls Try.prog 11 #[.agg ([.int .i64 k2, .int .u8 z2, .slice a2 len2 cap2]).toArray, .agg ([.int .i64 k1, .int .u8 z1, .slice a1 len1 cap1]).toArray] w' fun e w2 => e = .returned (.int .i64 (0)) ∧ Below w'.heap.size w' w2) := Lib.hid Hcyx.out
      clear Hcyx
      go_upto_region 6 with fail
      refine wp_region_later (W0 := W5) (Below.refl _ _) (by kernel_rfl) (by as_aux_lemma => kernel_rfl) ?_
      (go_big_quiet_want; refine quiet_load_val _ rfl (w.heap.size + 1) 0 [.int .i64 k2, .int .u8 z2, .slice a2 len2 cap2] rfl (fun w' hw' => by obtain ⟨L, rfl⟩ := hw'; exact HXy.out _ (Hb5.out.trans (L.ok.mono Hb5.out.size))) ?_; go_big_quiet_on; try simp only [Act.put, List.setIfInBounds_toArray, List.set_cons_zero, List.set_cons_succ])
      (go_big_quiet_want; refine quiet_load_val _ rfl w.heap.size 0 [.int .i64 k1, .int .u8 z1, .slice a1 len1 cap1] rfl (fun w' hw' => by obtain ⟨L, rfl⟩ := hw'; exact HXx.out _ (Hb5.out.trans (L.ok.mono Hb5.out.size))) ?_; go_big_quiet_on; try simp only [Act.put, List.setIfInBounds_toArray, List.set_cons_zero, List.set_cons_succ])
      go_big_quiet_step (exact Later.calls (Hneg.out _ (Hb5.out.trans ((Later.ok _).mono Hb5.out.size))))
      go_big_quiet_step (exact rfl)
      go_big_quiet_step (exact rfl)
      go_big_quiet_step (exact rfl)
      go_big_quiet_step (exact rfl)
      go_big_quiet_step (exact rfl)
      go_big_quiet_step (exact rfl)
      (go_big_quiet_want; refine quiet_load_val _ rfl w.heap.size 0 [.int .i64 k1, .int .u8 z1, .slice a1 len1 cap1] rfl (fun w' hw' => by obtain ⟨L, rfl⟩ := hw'; exact HXx.out _ (Hb5.out.trans (L.ok.mono Hb5.out.size))) ?_; go_big_quiet_on; try simp only [Act.put, List.setIfInBounds_toArray, List.set_cons_zero, List.set_cons_succ])
      go_big_quiet_step (exact Later.calls (Hpx.out _ (Hb5.out.trans ((Later.ok _).mono Hb5.out.size))))
      (go_big_quiet_want; refine quiet_load_val _ rfl (w.heap.size + 1) 0 [.int .i64 k2, .int .u8 z2, .slice a2 len2 cap2] rfl (fun w' hw' => by obtain ⟨L, rfl⟩ := hw'; exact HXy.out _ (Hb5.out.trans (L.ok.mono Hb5.out.size))) ?_; go_big_quiet_on; try simp only [Act.put, List.setIfInBounds_toArray, List.set_cons_zero, List.set_cons_succ])
      go_big_quiet_step (exact Later.calls (Hpy.out _ (Hb5.out.trans ((Later.ok _).mono Hb5.out.size))))
      go_big_quiet_step (exact rfl)
      go_big_quiet_step (exact rfl)
      go_big_quiet_step (exact rfl)
      go_big_quiet_step (exact rfl)
      go_big_quiet_step (exact rfl)
      go_big_quiet_step (exact rfl)
      go_big_quiet_step (exact rfl)
      go_big_quiet_step (exact rfl)
      go_big_quiet_step (exact rfl)
      go_big_quiet_step (exact rfl)
      go_big_quiet_step (exact rfl)
      go_big_quiet_skip
      go_big_quiet_skip
      go_big_quiet_step (exact rfl)
      go_big_quiet_step (exact rfl)
      go_big_quiet_step (exact rfl)
      go_big_quiet_step (exact rfl)
      go_big_quiet_step (exact rfl)
      go_big_quiet_step (exact rfl)
      go_big_quiet_skip
      go_big_quiet_skip
      go_big_quiet_step (exact rfl)
      go_big_quiet_step (exact rfl)
      go_big_quiet_skip
      go_big_quiet_skip
      go_big_quiet_step (exact rfl)
      go_big_quiet_step (exact rfl)
      go_big_quiet_step (exact rfl)
      (go_big_quiet_want; refine quiet_load_val _ rfl w.heap.size 0 [.int .i64 k1, .int .u8 z1, .slice a1 len1 cap1] rfl (fun w' hw' => by obtain ⟨L, rfl⟩ := hw'; exact HXx.out _ (Hb5.out.trans (L.ok.mono Hb5.out.size))) ?_; go_big_quiet_on; try simp only [Act.put, List.setIfInBounds_toArray, List.set_cons_zero, List.set_cons_succ])
      (go_big_quiet_want; refine quiet_load_val _ rfl (w.heap.size + 1) 0 [.int .i64 k2, .int .u8 z2, .slice a2 len2 cap2] rfl (fun w' hw' => by obtain ⟨L, rfl⟩ := hw'; exact HXy.out _ (Hb5.out.trans (L.ok.mono Hb5.out.size))) ?_; go_big_quiet_on; try simp only [Act.put, List.setIfInBounds_toArray, List.set_cons_zero, List.set_cons_succ])
      go_big_quiet_step (exact Later.calls (Hap.out _ (Hb5.out.trans ((Later.ok _).mono Hb5.out.size))))
      go_big_quiet_step (exact rfl)
      go_big_quiet_step (exact rfl)
      go_big_quiet_step (exact rfl)
      go_big_quiet_step (exact rfl)
      go_big_quiet_step (exact rfl)
      go_big_quiet_step (exact rfl)
      refine wpQuiet_nil ?_
      intro w' hw'
      obtain ⟨L', rfl⟩ := hw'
      go_step
      go_step
      go_wp2_with fail
      go_ret
      exact ⟨rfl, HbW.out.trans ((Hb5.out.trans (L'.ok.mono Hb5.out.size)).mono HbW.out.size)⟩
    · have hz : Z ≤ 0 := by omega
      have y1 : decide (Y > 0) = false := by simp; omega
      have y2 : decide (0 < Y) = false := by simp; omega
      have z2' : decide (Z ≤ 0) = true := by simp; omega
      clear hy hz l1 l2
      have e1 := HE.out
      have e2 := HP.out
      rw [show decide ((0 : Int) = 0) = true from rfl] at e1 e2
      clear HE HP HT HV
      have Hneg : Hid (∀ w', Below W.heap.size W w' → Calls Try.prog 11 #[.agg ([.int .i64 k2, .int .u8 z2, .slice a2 len2 cap2]).toArray, .agg ([.int .i64 k1, .int .u8 z1, .slice a1 len1 cap1]).toArray] w' fun e w2 => e = .returned (.int .i64 (0)) ∧ Below w'.heap.size w' w2) := Lib.hid Hcyx.out
      clear Hcyx
      go_upto_region 6 with fail
      refine wp_region_later (W0 := W5) (Below.refl _ _) (by kernel_rfl) (by as_aux_lemma => kernel_rfl) ?_
      (go_big_quiet_want; refine quiet_load_val _ rfl (w.heap.size + 1) 0 [.int .i64 k2, .int .u8 z2, .slice a2 len2 cap2] rfl (fun w' hw' => by obtain ⟨L, rfl⟩ := hw'; exact HXy.out _ (Hb5.out.trans (L.ok.mono Hb5.out.size))) ?_; go_big_quiet_on; try simp only [Act.put, List.setIfInBounds_toArray, List.set_cons_zero, List.set_cons_succ])
      (go_big_quiet_want; refine quiet_load_val _ rfl w.heap.size 0 [.int .i64 k1, .int .u8 z1, .slice a1 len1 cap1] rfl (fun w' hw' => by obtain ⟨L, rfl⟩ := hw'; exact HXx.out _ (Hb5.out.trans (L.ok.mono Hb5.out.size))) ?_; go_big_quiet_on; try simp only [Act.put, List.setIfInBounds_toArray, List.set_cons_zero, List.set_cons_succ])
      go_big_quiet_step (exact Later.calls (Hneg.out _ (Hb5.out.trans ((Later.ok _).mono Hb5.out.size))))
      go_big_quiet_step (exact rfl)
      go_big_quiet_step (exact rfl)
      go_big_quiet_step (exact rfl)
      go_big_quiet_step (exact rfl)
      go_big_quiet_step (exact rfl)
      go_big_quiet_step (exact rfl)
      (go_big_quiet_want; refine quiet_load_val _ rfl w.heap.size 0 [.int .i64 k1, .int .u8 z1, .slice a1 len1 cap1] rfl (fun w' hw' => by obtain ⟨L, rfl⟩ := hw'; exact HXx.out _ (Hb5.out.trans (L.ok.mono Hb5.out.size))) ?_; go_big_quiet_on; try simp only [Act.put, List.setIfInBounds_toArray, List.set_cons_zero, List.set_cons_succ])
      go_big_quiet_step (exact Later.calls (Hpx.out _ (Hb5.out.trans ((Later.ok _).mono Hb5.out.size))))
      (go_big_quiet_want; refine quiet_load_val _ rfl (w.heap.size + 1) 0 [.int .i64 k2, .int .u8 z2, .slice a2 len2 cap2] rfl (fun w' hw' => by obtain ⟨L, rfl⟩ := hw'; exact HXy.out _ (Hb5.out.trans (L.ok.mono Hb5.out.size))) ?_; go_big_quiet_on; try simp only [Act.put, List.setIfInBounds_toArray, List.set_cons_zero, List.set_cons_succ])
      go_big_quiet_step (exact Later.calls (Hpy.out _ (Hb5.out.trans ((Later.ok _).mono Hb5.out.size))))
      go_big_quiet_step (exact rfl)
      go_big_quiet_step (exact rfl)
      go_big_quiet_step (exact rfl)
      go_big_quiet_step (exact rfl)
      go_big_quiet_step (exact rfl)
      go_big_quiet_step (exact rfl)
      go_big_quiet_step (exact rfl)
      go_big_quiet_step (exact rfl)
      go_big_quiet_step (exact rfl)
      go_big_quiet_step (exact rfl)
      go_big_quiet_step (exact rfl)
      go_big_quiet_step (exact rfl)
      go_big_quiet_step (exact rfl)
      go_big_quiet_step (exact rfl)
      go_big_quiet_step (exact rfl)
      go_big_quiet_step (exact rfl)
      go_big_quiet_step (exact rfl)
      go_big_quiet_step (exact rfl)
      go_big_quiet_step (exact rfl)
      go_big_quiet_skip
      go_big_quiet_skip
      go_big_quiet_step (exact rfl)
      go_big_quiet_step (exact rfl)
      go_big_quiet_skip
      go_big_quiet_skip
      go_big_quiet_step (exact rfl)
      go_big_quiet_step (exact rfl)
      go_big_quiet_step (exact rfl)
      (go_big_quiet_want; refine quiet_load_val _ rfl w.heap.size 0 [.int .i64 k1, .int .u8 z1, .slice a1 len1 cap1] rfl (fun w' hw' => by obtain ⟨L, rfl⟩ := hw'; exact HXx.out _ (Hb5.out.trans (L.ok.mono Hb5.out.size))) ?_; go_big_quiet_on; try simp only [Act.put, List.setIfInBounds_toArray, List.set_cons_zero, List.set_cons_succ])
      (go_big_quiet_want; refine quiet_load_val _ rfl (w.heap.size + 1) 0 [.int .i64 k2, .int .u8 z2, .slice a2 len2 cap2] rfl (fun w' hw' => by obtain ⟨L, rfl⟩ := hw'; exact HXy.out _ (Hb5.out.trans (L.ok.mono Hb5.out.size))) ?_; go_big_quiet_on; try simp only [Act.put, List.setIfInBounds_toArray, List.set_cons_zero, List.set_cons_succ])
      go_big_quiet_step (exact Later.calls (Hap.out _ (Hb5.out.trans ((Later.ok _).mono Hb5.out.size))))
      go_big_quiet_step (exact rfl)
      go_big_quiet_step (exact rfl)
      go_big_quiet_step (exact rfl)
      go_big_quiet_step (exact rfl)
      go_big_quiet_step (exact rfl)
      go_big_quiet_step (exact rfl)
      refine wpQuiet_nil ?_
      intro w' hw'
      obtain ⟨L', rfl⟩ := hw'
      go_step
      go_step
      go_wp2_with fail
      go_ret
      exact ⟨rfl, HbW.out.trans ((Hb5.out.trans (L'.ok.mono Hb5.out.size)).mono HbW.out.size)⟩
  · clear l1 l2
    have e1 := HE.out
    have e2 := HP.out
    rw [show decide ((1 : Int) = 0) = false from rfl] at e1 e2
    clear HE HP HT HV
    have Hneg : Hid (∀ w', Below W.heap.size W w' → Calls Try.prog 11 #[.agg ([.int .i64 k2, .int .u8 z2, .slice a2 len2 cap2]).toArray, .agg ([.int .i64 k1, .int .u8 z1, .slice a1 len1 cap1]).toArray] w' fun e w2 => e = .returned (.int .i64 (-1)) ∧ Below w'.heap.size w' w2) := Lib.hid Hcyx.out
    clear Hcyx
    go_upto_region 6 with fail
    refine wp_region_later (W0 := W5) (Below.refl _ _) (by kernel_rfl) (by as_aux_lemma => kernel_rfl) ?_
    (go_big_quiet_want; refine quiet_load_val _ rfl (w.heap.size + 1) 0 [.int .i64 k2, .int .u8 z2, .slice a2 len2 cap2] rfl (fun w' hw' => by obtain ⟨L, rfl⟩ := hw'; exact HXy.out _ (Hb5.out.trans (L.ok.mono Hb5.out.size))) ?_; go_big_quiet_on; try simp only [Act.put, List.setIfInBounds_toArray, List.set_cons_zero, List.set_cons_succ])
    (go_big_quiet_want; refine quiet_load_val _ rfl w.heap.size 0 [.int .i64 k1, .int .u8 z1, .slice a1 len1 cap1] rfl (fun w' hw' => by obtain ⟨L, rfl⟩ := hw'; exact HXx.out _ (Hb5.out.trans (L.ok.mono Hb5.out.size))) ?_; go_big_quiet_on; try simp only [Act.put, List.setIfInBounds_toArray, List.set_cons_zero, List.set_cons_succ])
    go_big_quiet_step (exact Later.calls (Hneg.out _ (Hb5.out.trans ((Later.ok _).mono Hb5.out.size))))
    go_big_quiet_step (exact rfl)
    go_big_quiet_step (exact rfl)
    go_big_quiet_step (exact rfl)
    go_big_quiet_step (exact rfl)
    go_big_quiet_step (exact rfl)
    go_big_quiet_step (exact rfl)
    (go_big_quiet_want; refine quiet_load_val _ rfl w.heap.size 0 [.int .i64 k1, .int .u8 z1, .slice a1 len1 cap1] rfl (fun w' hw' => by obtain ⟨L, rfl⟩ := hw'; exact HXx.out _ (Hb5.out.trans (L.ok.mono Hb5.out.size))) ?_; go_big_quiet_on; try simp only [Act.put, List.setIfInBounds_toArray, List.set_cons_zero, List.set_cons_succ])
    go_big_quiet_step (exact Later.calls (Hpx.out _ (Hb5.out.trans ((Later.ok _).mono Hb5.out.size))))
    (go_big_quiet_want; refine quiet_load_val _ rfl (w.heap.size + 1) 0 [.int .i64 k2, .int .u8 z2, .slice a2 len2 cap2] rfl (fun w' hw' => by obtain ⟨L, rfl⟩ := hw'; exact HXy.out _ (Hb5.out.trans (L.ok.mono Hb5.out.size))) ?_; go_big_quiet_on; try simp only [Act.put, List.setIfInBounds_toArray, List.set_cons_zero, List.set_cons_succ])
    go_big_quiet_step (exact Later.calls (Hpy.out _ (Hb5.out.trans ((Later.ok _).mono Hb5.out.size))))
    go_big_quiet_step (exact rfl)
    go_big_quiet_step (exact rfl)
    go_big_quiet_step (exact rfl)
    go_big_quiet_step (exact rfl)
    go_big_quiet_step (exact rfl)
    go_big_quiet_step (exact rfl)
    go_big_quiet_step (exact rfl)
    go_big_quiet_skip
    go_big_quiet_skip
    go_big_quiet_step (exact rfl)
    go_big_quiet_step (exact rfl)
    go_big_quiet_skip
    go_big_quiet_skip
    go_big_quiet_step (exact rfl)
    go_big_quiet_step (exact rfl)
    go_big_quiet_step (exact rfl)
    go_big_quiet_step (exact rfl)
    go_big_quiet_step (exact rfl)
    go_big_quiet_step (exact rfl)
    go_big_quiet_skip
    go_big_quiet_skip
    go_big_quiet_step (exact rfl)
    go_big_quiet_step (exact rfl)
    go_big_quiet_skip
    go_big_quiet_skip
    go_big_quiet_step (exact rfl)
    go_big_quiet_step (exact rfl)
    go_big_quiet_step (exact rfl)
    (go_big_quiet_want; refine quiet_load_val _ rfl w.heap.size 0 [.int .i64 k1, .int .u8 z1, .slice a1 len1 cap1] rfl (fun w' hw' => by obtain ⟨L, rfl⟩ := hw'; exact HXx.out _ (Hb5.out.trans (L.ok.mono Hb5.out.size))) ?_; go_big_quiet_on; try simp only [Act.put, List.setIfInBounds_toArray, List.set_cons_zero, List.set_cons_succ])
    (go_big_quiet_want; refine quiet_load_val _ rfl (w.heap.size + 1) 0 [.int .i64 k2, .int .u8 z2, .slice a2 len2 cap2] rfl (fun w' hw' => by obtain ⟨L, rfl⟩ := hw'; exact HXy.out _ (Hb5.out.trans (L.ok.mono Hb5.out.size))) ?_; go_big_quiet_on; try simp only [Act.put, List.setIfInBounds_toArray, List.set_cons_zero, List.set_cons_succ])
    go_big_quiet_step (exact Later.calls (Hap.out _ (Hb5.out.trans ((Later.ok _).mono Hb5.out.size))))
    go_big_quiet_step (exact rfl)
    go_big_quiet_step (exact rfl)
    go_big_quiet_step (exact rfl)
    go_big_quiet_step (exact rfl)
    go_big_quiet_step (exact rfl)
    go_big_quiet_step (exact rfl)
    refine wpQuiet_nil ?_
    intro w' hw'
    obtain ⟨L', rfl⟩ := hw'
    go_step
    go_step
    go_wp2_with fail
    go_ret
    exact ⟨rfl, HbW.out.trans ((Hb5.out.trans (L'.ok.mono Hb5.out.size)).mono HbW.out.size)⟩
end V
end Go.Proofs.Ytblgjcolmaidlaa
