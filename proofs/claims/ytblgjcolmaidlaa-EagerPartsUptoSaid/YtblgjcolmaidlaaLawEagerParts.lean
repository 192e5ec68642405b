/- The law EagerParts, walked: any three values of at most so many parts. -/
import Derived.Test.YtblgjcolmaidlaaEagerAwake
import Derived.Test.YtblgjcolmaidlaaValWide
namespace Go.Proofs.Ytblgjcolmaidlaa
namespace V
set_option maxRecDepth 100000
open Go.RowKit
theorem put_left (x : Vl) : (Vl.mk 4 0 [x]).put = 48 :: x.put := by rw [put_cntd]; show 48 :: ([x].map Vl.put).flatten = _; simp
theorem put_right (x : Vl) : (Vl.mk 5 0 [x]).put = 49 :: x.put := by rw [put_cntd]; show 49 :: ([x].map Vl.put).flatten = _; simp
theorem put_pair (z x : Vl) : (Vl.mk 3 0 [z, x]).put = z.put ++ x.put := by rw [put_cntd]; show ([z, x].map Vl.put).flatten = _; simp
theorem eord_left (x y : Vl) : eord (.mk 4 0 [x]) (.mk 4 0 [y]) = eord x y := by
  show elex (Vl.put _) (Vl.put _) = _
  rw [put_left, put_left]; exact elex_append [48] _ _
theorem eord_lr (x y : Vl) : eord (.mk 4 0 [x]) (.mk 5 0 [y]) = -1 := by
  show elex (Vl.put _) (Vl.put _) = _
  rw [put_left, put_right, elex, if_pos (by decide)]
theorem eord_pair (x y z : Vl) : eord (.mk 3 0 [z, x]) (.mk 3 0 [z, y]) = eord x y := by
  show elex (Vl.put _) (Vl.put _) = _
  rw [put_pair, put_pair]; exact elex_append z.put _ _
theorem fit_one {x : Vl} (h : x.count ≤ 1048576) (k : Int) : Fit (.mk k 0 [x]) := by
  show (Vl.mk k 0 [x]).count ≤ 1099511627776
  rw [count_mk, counts_cons, counts_nil]; omega
theorem fit_pair {x z : Vl} (hx : x.count ≤ 1048576) (hz : z.count ≤ 1048576) (k : Int) : Fit (.mk k 0 [z, x]) := by
  show (Vl.mk k 0 [z, x]).count ≤ 1099511627776
  rw [count_mk, counts_cons, counts_cons, counts_nil]; omega
set_option maxHeartbeats 32000000 in
theorem eagerParts_walk (x : Vl) (cs : List Value) (y : Vl) (ds : List Value) (z : Vl) (es : List Value) (w : World) (hx : Vl.at w x cs) (hy : Vl.at w y ds) (hz : Vl.at w z es) (hsx : x.count ≤ 1048576) (hsy : y.count ≤ 1048576) (hsz : z.count ≤ 1048576) :
    Calls Try.prog 6 #[.agg cs.toArray, .agg ds.toArray, .agg es.toArray] w fun e w' => e = .returned (.bool true) ∧ Below w.heap.size w w' := by
  obtain ⟨W, hW⟩ : ∃ W, W = ((w.alloc (.cells cs.toArray 25)).alloc (.cells ds.toArray 25)).alloc (.cells es.toArray 25) := ⟨_, rfl⟩
  have hbW : Below w.heap.size w W := by rw [hW]; exact ((((Below.refl _ _).alloc (Nat.le_refl _) _).alloc (by simp) _).alloc (by simp; omega) _)
  have hsW : W.heap.size = w.heap.size + 3 := by rw [hW]; simp
  have hxx : Val3 W w.heap.size 0 cs := by
    have h := World.alloc_heap_new w (.cells cs.toArray 25)
    rw [hW]
    exact Val3.below (val3_in h (at_len hx)) (B := w.heap.size + 1) (by omega) (((Below.refl _ _).alloc (by first | (simp; done) | (simp; omega)) _).alloc (by first | (simp; done) | (simp; omega)) _)
  have hxy : Val3 W (w.heap.size + 1) 0 ds := by
    have h := World.alloc_heap_new (w.alloc (.cells cs.toArray 25)) (.cells ds.toArray 25)
    rw [World.size_alloc] at h
    rw [hW]
    exact Val3.below (val3_in h (at_len hy)) (B := w.heap.size + 2) (by omega) ((Below.refl _ _).alloc (by first | (simp; done) | (simp; omega)) _)
  have hxz : Val3 W (w.heap.size + 2) 0 es := by
    have h := World.alloc_heap_new ((w.alloc (.cells cs.toArray 25)).alloc (.cells ds.toArray 25)) (.cells es.toArray 25)
    rw [World.size_alloc, World.size_alloc] at h
    rw [hW]
    exact (val3_in h (at_len hz))
  have HXx : Hid (∀ w', Below W.heap.size W w' → Val3 w' w.heap.size 0 cs) := Lib.hid fun w' h => Val3.below hxx (by omega) h
  have HAx : Hid (∀ w', Below W.heap.size W w' → Vl.at w' x cs) := Lib.hid fun w' h => Vl.at_below (hbW.trans (h.mono hbW.size)) (Nat.le_refl _) _ _ hx
  have HXy : Hid (∀ w', Below W.heap.size W w' → Val3 w' (w.heap.size + 1) 0 ds) := Lib.hid fun w' h => Val3.below hxy (by omega) h
  have HAy : Hid (∀ w', Below W.heap.size W w' → Vl.at w' y ds) := Lib.hid fun w' h => Vl.at_below (hbW.trans (h.mono hbW.size)) (Nat.le_refl _) _ _ hy
  have HXz : Hid (∀ w', Below W.heap.size W w' → Val3 w' (w.heap.size + 2) 0 es) := Lib.hid fun w' h => Val3.below hxz (by omega) h
  have HAz : Hid (∀ w', Below W.heap.size W w' → Vl.at w' z es) := Lib.hid fun w' h => Vl.at_below (hbW.trans (h.mono hbW.size)) (Nat.le_refl _) _ _ hz
  have HbW := Lib.hid hbW
  have HsW := Lib.hid hsW
  clear hbW hsW hxx hxy hxz
  have Haw : Hid (∀ w', Below W.heap.size W w' → Calls Try.prog 7 #[] w' fun e w' => e = .returned (.bool true) ∧ Below W.heap.size W w') := Lib.hid fun w' h => by
    refine (awake14_any w').mono ?_
    rintro e w3 ⟨rfl, hb⟩
    exact ⟨rfl, h.trans (hb.mono h.size)⟩
  have Hwidex : Hid (∀ w', Below W.heap.size W w' → Calls Try.prog 14 #[.agg cs.toArray, .int .i64 20] w' fun e w' => e = .returned (.bool (wideN 20 x)) ∧ Below W.heap.size W w') := Lib.hid fun w' h => by
    refine (wide_any 20 x cs w' (by decide) (HAx.out _ h)).mono ?_
    rintro e w3 ⟨rfl, hb⟩
    exact ⟨rfl, h.trans (hb.mono h.size)⟩
  have Hwidey : Hid (∀ w', Below W.heap.size W w' → Calls Try.prog 14 #[.agg ds.toArray, .int .i64 20] w' fun e w' => e = .returned (.bool (wideN 20 y)) ∧ Below W.heap.size W w') := Lib.hid fun w' h => by
    refine (wide_any 20 y ds w' (by decide) (HAy.out _ h)).mono ?_
    rintro e w3 ⟨rfl, hb⟩
    exact ⟨rfl, h.trans (hb.mono h.size)⟩
  have Hwidez : Hid (∀ w', Below W.heap.size W w' → Calls Try.prog 14 #[.agg es.toArray, .int .i64 20] w' fun e w' => e = .returned (.bool (wideN 20 z)) ∧ Below W.heap.size W w') := Lib.hid fun w' h => by
    refine (wide_any 20 z es w' (by decide) (HAz.out _ h)).mono ?_
    rintro e w3 ⟨rfl, hb⟩
    exact ⟨rfl, h.trans (hb.mono h.size)⟩
  have Hcxy : Hid (∀ w', Below W.heap.size W w' → Calls Try.prog 11 #[.agg cs.toArray, .agg ds.toArray] w' fun e w2 => e = .returned (.int .i64 (eord x y)) ∧ Below w'.heap.size w' w2) := Lib.hid fun w' h => eager_cmp x y cs ds w' (HAx.out _ h) (HAy.out _ h) (fit_up hsx) (fit_up hsy)
  have Hpx : Hid (∀ w', Below W.heap.size W w' → Calls Try.prog 18 #[.agg cs.toArray] w' fun e w2 => e = .returned (.string (putS x)) ∧ Below w'.heap.size w' w2) := Lib.hid fun w' h => put_s (HAx.out _ h) (fit_up hsx)
  have Hpy : Hid (∀ w', Below W.heap.size W w' → Calls Try.prog 18 #[.agg ds.toArray] w' fun e w2 => e = .returned (.string (putS y)) ∧ Below w'.heap.size w' w2) := Lib.hid fun w' h => put_s (HAy.out _ h) (fit_up hsy)
  have Hap : Hid (∀ w', Below W.heap.size W w' → Calls Try.prog 12 #[.agg cs.toArray, .agg ds.toArray] w' fun e w2 => e = .returned (.int .i64 (eapart x y)) ∧ Below w'.heap.size w' w2) := Lib.hid fun w' h => eager_apart x y cs ds w' (HAx.out _ h) (HAy.out _ h) (fit_up hsx) (fit_up hsy)
  have Hll : Hid (∀ (w' : World) (us vs : List Value), Vl.at w' (.mk 4 0 [x]) us → Vl.at w' (.mk 4 0 [y]) vs → Calls Try.prog 11 #[.agg us.toArray, .agg vs.toArray] w' fun e w2 => e = .returned (.int .i64 (eord x y)) ∧ Below w'.heap.size w' w2) := Lib.hid fun w' us vs h1 h2 => by
    have h := eager_cmp (.mk 4 0 [x]) (.mk 4 0 [y]) us vs w' h1 h2 (fit_one hsx 4) (fit_one hsy 4)
    rw [eord_left] at h
    exact h
  have Hlr : Hid (∀ (w' : World) (us vs : List Value), Vl.at w' (.mk 4 0 [x]) us → Vl.at w' (.mk 5 0 [y]) vs → Calls Try.prog 11 #[.agg us.toArray, .agg vs.toArray] w' fun e w2 => e = .returned (.int .i64 (-1)) ∧ Below w'.heap.size w' w2) := Lib.hid fun w' us vs h1 h2 => by
    have h := eager_cmp (.mk 4 0 [x]) (.mk 5 0 [y]) us vs w' h1 h2 (fit_one hsx 4) (fit_one hsy 5)
    rw [eord_lr] at h
    exact h
  have Hpp : Hid (∀ (w' : World) (us vs : List Value), Vl.at w' (.mk 3 0 [z, x]) us → Vl.at w' (.mk 3 0 [z, y]) vs → Calls Try.prog 11 #[.agg us.toArray, .agg vs.toArray] w' fun e w2 => e = .returned (.int .i64 (eord x y)) ∧ Below w'.heap.size w' w2) := Lib.hid fun w' us vs h1 h2 => by
    have h := eager_cmp (.mk 3 0 [z, x]) (.mk 3 0 [z, y]) us vs w' h1 h2 (fit_pair hsx hsz 3) (fit_pair hsy hsz 3)
    rw [eord_pair] at h
    exact h
  have HE : Hid (((putS x).toList == (putS y).toList) = (eapart x y == -1)) := Lib.hid (by rw [eq_list, putS_nats, putS_nats, Bool.eq_iff_iff, beq_iff_eq, decide_eq_true_eq, apartL_iff])
  have HLe : Hid (eapart x y ≤ ((putS x).size : Int) ∧ eapart x y ≤ ((putS y).size : Int)) := Lib.hid (by rw [putS_size, putS_size]; exact apartL_le _ _)
  generalize eord x y = X at *
  generalize eapart x y = A at *
  generalize putS x = tx at *
  generalize putS y = ty at *
  obtain ⟨k1, z1, a1, len1, cap1, rfl⟩ := at_lit hx
  obtain ⟨k2, z2, a2, len2, cap2, rfl⟩ := at_lit hy
  obtain ⟨k3, z3, a3, len3, cap3, rfl⟩ := at_lit hz
  clear hx hy hz hsx hsy hsz
  cases B0 : wideN 20 x with
  | true =>
    rw [B0] at Hwidex
    go_enter Try.func6, Try.ntmps6
    go_upto_region 1 with fail
    rw [← hW]
    clear hW
    go_wp2_with (first
      | (go_at_call 7; refine (Haw.out _ (Below.refl _ _)).mono ?_; rintro e W1 ⟨rfl, hb1⟩; have q0x := HXx.out _ hb1; have call0 := Hwidex.out _ hb1; clear hb1)
      | (refine wpList_load_val rfl _ rfl w.heap.size 0 _ rfl q0x ?_)
      | (go_at_call 14; refine call0.mono ?_; clear call0; rintro e W2 ⟨rfl, hb2⟩; clear q0x; have Hb2 := Lib.hid hb2; clear hb2)
      | fail)
    go_ret
    exact ⟨rfl, HbW.out.trans (Hb2.out.mono HbW.out.size)⟩
  | false =>
  rw [B0] at Hwidex
  cases B1 : wideN 20 y with
  | true =>
    rw [B1] at Hwidey
    go_enter Try.func6, Try.ntmps6
    go_upto_region 1 with fail
    rw [← hW]
    clear hW
    go_wp2_with (first
      | (go_at_call 7; refine (Haw.out _ (Below.refl _ _)).mono ?_; rintro e W1 ⟨rfl, hb1⟩; have q0x := HXx.out _ hb1; have call0 := Hwidex.out _ hb1; clear hb1)
      | (refine wpList_load_val rfl _ rfl w.heap.size 0 _ rfl q0x ?_)
      | (go_at_call 14; refine call0.mono ?_; clear call0; rintro e W2 ⟨rfl, hb2⟩; clear q0x; have q1y := HXy.out _ hb2; have call1 := Hwidey.out _ hb2; clear hb2)
      | (refine wpList_load_val_want rfl _ rfl (w.heap.size + 1) 0 _ rfl q1y ?_)
      | (go_at_call 14; refine call1.mono ?_; clear call1; rintro e W3 ⟨rfl, hb3⟩; clear q1y; have Hb3 := Lib.hid hb3; clear hb3)
      | fail)
    go_ret
    exact ⟨rfl, HbW.out.trans (Hb3.out.mono HbW.out.size)⟩
  | false =>
  rw [B1] at Hwidey
  cases B2 : wideN 20 z with
  | true =>
    rw [B2] at Hwidez
    go_enter Try.func6, Try.ntmps6
    go_upto_region 1 with fail
    rw [← hW]
    clear hW
    go_wp2_with (first
      | (go_at_call 7; refine (Haw.out _ (Below.refl _ _)).mono ?_; rintro e W1 ⟨rfl, hb1⟩; have q0x := HXx.out _ hb1; have call0 := Hwidex.out _ hb1; clear hb1)
      | (refine wpList_load_val rfl _ rfl w.heap.size 0 _ rfl q0x ?_)
      | (go_at_call 14; refine call0.mono ?_; clear call0; rintro e W2 ⟨rfl, hb2⟩; clear q0x; have q1y := HXy.out _ hb2; have call1 := Hwidey.out _ hb2; clear hb2)
      | (refine wpList_load_val_want rfl _ rfl (w.heap.size + 1) 0 _ rfl q1y ?_)
      | (go_at_call 14; refine call1.mono ?_; clear call1; rintro e W3 ⟨rfl, hb3⟩; clear q1y; have q2z := HXz.out _ hb3; have call2 := Hwidez.out _ hb3; clear hb3)
      | (refine wpList_load_val_want rfl _ rfl (w.heap.size + 2) 0 _ rfl q2z ?_)
      | (go_at_call 14; refine call2.mono ?_; clear call2; rintro e W4 ⟨rfl, hb4⟩; clear q2z; have Hb4 := Lib.hid hb4; clear hb4)
      | fail)
    go_ret
    exact ⟨rfl, HbW.out.trans (Hb4.out.mono HbW.out.size)⟩
  | false =>
  rw [B2] at Hwidez
  go_enter Try.func6, Try.ntmps6
  go_upto_region 1 with fail
  rw [← hW]
  clear hW
  go_upto_region 5 with (first
    | (go_at_call 7; refine (Haw.out _ (Below.refl _ _)).mono ?_; rintro e W1 ⟨rfl, hb1⟩; have q0x := HXx.out _ hb1; have call0 := Hwidex.out _ hb1; clear hb1)
    | (refine wpList_load_val rfl _ rfl w.heap.size 0 _ rfl q0x ?_)
    | (go_at_call 14; refine call0.mono ?_; clear call0; rintro e W2 ⟨rfl, hb2⟩; clear q0x; have q1y := HXy.out _ hb2; have call1 := Hwidey.out _ hb2; clear hb2)
    | (refine wpList_load_val_want rfl _ rfl (w.heap.size + 1) 0 _ rfl q1y ?_)
    | (go_at_call 14; refine call1.mono ?_; clear call1; rintro e W3 ⟨rfl, hb3⟩; clear q1y; have q2z := HXz.out _ hb3; have call2 := Hwidez.out _ hb3; clear hb3)
    | (refine wpList_load_val_want rfl _ rfl (w.heap.size + 2) 0 _ rfl q2z ?_)
    | (go_at_call 14; refine call2.mono ?_; clear call2; rintro e W4 ⟨rfl, hb4⟩; clear q2z; have Hb4 := Lib.hid hb4; clear hb4)
    | fail)
  go_wp2_with (first
    | (refine wpList_load_val rfl _ rfl w.heap.size 0 _ rfl (HXx.out _ Hb4.out) ?_)
    | (refine wpList_load_val rfl _ rfl (w.heap.size + 1) 0 _ rfl (HXy.out _ Hb4.out) ?_)
    | fail)
  refine (Hcxy.out _ Hb4.out).mono ?_
  rintro e W5 ⟨rfl, hb5⟩
  have Hb5 := Lib.hid (Hb4.out.trans (hb5.mono Hb4.out.size))
  clear hb5
  go_upto_region 6 with fail
  refine wp_region_later (W0 := W5) (Below.refl _ _) (by kernel_rfl) (by as_aux_lemma => kernel_rfl) ?_
  (go_big_quiet_want; refine quiet_load_val _ rfl w.heap.size 0 [.int .i64 k1, .int .u8 z1, .slice a1 len1 cap1] rfl (fun w' hw' => by obtain ⟨L, rfl⟩ := hw'; exact HXx.out _ (Hb5.out.trans (L.ok.mono Hb5.out.size))) ?_; go_big_quiet_on; try simp only [Act.put, List.setIfInBounds_toArray, List.set_cons_zero, List.set_cons_succ])
  go_big_quiet_step (exact Later.calls (Hpx.out _ (Hb5.out.trans ((Later.ok _).mono Hb5.out.size))))
  (go_big_quiet_want; refine quiet_load_val _ rfl (w.heap.size + 1) 0 [.int .i64 k2, .int .u8 z2, .slice a2 len2 cap2] rfl (fun w' hw' => by obtain ⟨L, rfl⟩ := hw'; exact HXy.out _ (Hb5.out.trans (L.ok.mono Hb5.out.size))) ?_; go_big_quiet_on; try simp only [Act.put, List.setIfInBounds_toArray, List.set_cons_zero, List.set_cons_succ])
  go_big_quiet_step (exact Later.calls (Hpy.out _ (Hb5.out.trans ((Later.ok _).mono Hb5.out.size))))
  go_big_quiet_step (exact rfl)
  go_big_quiet_step (exact rfl)
  refine wpQuiet_nil ?_
  intro w' hw'
  obtain ⟨L', rfl⟩ := hw'
  have Hb6' := Lib.hid (Hb5.out.trans (L'.ok.mono Hb5.out.size))
  generalize L'.val = W6 at Hb6' ⊢
  clear L'
  go_step
  go_step
  have H2x := Lib.hid (HXx.out _ Hb6'.out)
  have H2z := Lib.hid (HXz.out _ Hb6'.out)
  have HA5 := Lib.hid (And.intro (HAx.out _ Hb6'.out) (And.intro (HAy.out _ Hb6'.out) (HAz.out _ Hb6'.out)))
  obtain ⟨V1, hV1⟩ : ∃ V1, V1 = W6.alloc (.cells #[.int .i64 k3, .int .u8 z3, .slice a3 len3 cap3, .int .i64 k1, .int .u8 z1, .slice a1 len1 cap1] 25) := ⟨_, rfl⟩
  obtain ⟨V2, hV2⟩ : ∃ V2, V2 = V1.alloc (.cells #[.int .i64 k3, .int .u8 z3, .slice a3 len3 cap3, .int .i64 k2, .int .u8 z2, .slice a2 len2 cap2] 25) := ⟨_, rfl⟩
  obtain ⟨V3, hV3⟩ : ∃ V3, V3 = V2.alloc (.cells #[.int .i64 3, .int .u8 0, .slice (some ⟨W6.heap.size, 0, none⟩) 2 2, .int .i64 3, .int .u8 0, .slice (some ⟨W6.heap.size + 1, 0, none⟩) 2 2] 25) := ⟨_, rfl⟩
  have hs1 : V1.heap.size = W6.heap.size + 1 := by rw [hV1]; simp
  have hs2 : V2.heap.size = W6.heap.size + 2 := by rw [hV2]; simp [hs1]
  have hb1 : Below W6.heap.size W6 V1 := by rw [hV1]; exact (Below.refl _ _).alloc (Nat.le_refl _) _
  have hb2 : Below V1.heap.size V1 V2 := by rw [hV2]; exact (Below.refl _ _).alloc (Nat.le_refl _) _
  have hb3 : Below V2.heap.size V2 V3 := by rw [hV3]; exact (Below.refl _ _).alloc (Nat.le_refl _) _
  have m1 : Vl.at V1 (.mk 3 0 [z, x]) [.int .i64 3, .int .u8 0, .slice (some ⟨W6.heap.size, 0, none⟩) 2 2] := by
    refine at_made (k := 3) (z := 0) (b := W6.heap.size) rfl (by decide) [(z, [.int .i64 k3, .int .u8 z3, .slice a3 len3 cap3]), (x, [.int .i64 k1, .int .u8 z1, .slice a1 len1 cap1])] (by show 2 ≤ maxLen; decide) ?_ (by rw [hV1]; exact World.alloc_heap_new _ _)
    intro p hp
    simp only [List.mem_cons, List.not_mem_nil, or_false] at hp
    rcases hp with rfl | rfl
    · exact eat3 HA5.out.2.2 hb1
    · exact eat3 HA5.out.1 hb1
  have m2 : Vl.at V2 (.mk 3 0 [z, y]) [.int .i64 3, .int .u8 0, .slice (some ⟨W6.heap.size + 1, 0, none⟩) 2 2] := by
    refine at_made (k := 3) (z := 0) (b := W6.heap.size + 1) rfl (by decide) [(z, [.int .i64 k3, .int .u8 z3, .slice a3 len3 cap3]), (y, [.int .i64 k2, .int .u8 z2, .slice a2 len2 cap2])] (by show 2 ≤ maxLen; decide) ?_ (by rw [hV2, ← hs1]; exact World.alloc_heap_new _ _)
    intro p hp
    simp only [List.mem_cons, List.not_mem_nil, or_false] at hp
    rcases hp with rfl | rfl
    · exact eat3 (eat3 HA5.out.2.2 hb1) hb2
    · exact eat3 (eat3 HA5.out.2.1 hb1) hb2
  have HM1 := Lib.hid (eat3 (eat3 m1 hb2) hb3)
  have HM2 := Lib.hid (eat3 m2 hb3)
  have Hb6 : Hid (Below W.heap.size W V3) := Lib.hid (Hb6'.out.trans ((hb1.trans ((hb2.mono (by omega)).trans (hb3.mono (by omega)))).mono Hb6'.out.size))
  have hblk : V3.heap[W6.heap.size + 2]? = some (.cells #[.int .i64 3, .int .u8 0, .slice (some ⟨W6.heap.size, 0, none⟩) 2 2, .int .i64 3, .int .u8 0, .slice (some ⟨W6.heap.size + 1, 0, none⟩) 2 2] 25) := by rw [hV3, ← hs2]; exact World.alloc_heap_new _ _
  have HV1 : Hid (Val3 V3 (W6.heap.size + 2) 0 [.int .i64 3, .int .u8 0, .slice (some ⟨W6.heap.size, 0, none⟩) 2 2]) := Lib.hid ⟨rfl, fun q hq => by
    rw [cells_at hblk]
    match q, hq with
    | 0, _ => rfl
    | 1, _ => rfl
    | 2, _ => rfl⟩
  have HV2 : Hid (Val3 V3 (W6.heap.size + 2) 3 [.int .i64 3, .int .u8 0, .slice (some ⟨W6.heap.size + 1, 0, none⟩) 2 2]) := Lib.hid ⟨rfl, fun q hq => by
    rw [cells_at hblk]
    match q, hq with
    | 0, _ => rfl
    | 1, _ => rfl
    | 2, _ => rfl⟩
  have Hbk := Lib.hid (lt_of_block hblk)
  have h2y := HXy.out _ (Hb6'.out.trans (hb1.mono Hb6'.out.size))
  have h2z := HXz.out _ (Hb6'.out.trans (hb1.mono Hb6'.out.size))
  rw [hV1] at h2y h2z
  have H2y := Lib.hid h2y
  have H2z' := Lib.hid h2z
  clear h2y h2z
  clear hs1 hs2 hb1 hb2 hb3 m1 m2 hblk
  go_upto_region 8 with (first
    | (refine wpList_load_val rfl _ rfl (w.heap.size + 2) 0 _ rfl H2z.out ?_)
    | (refine wpList_load_val rfl _ rfl w.heap.size 0 _ rfl H2x.out ?_)
    | (refine wpList_load_val rfl _ rfl (w.heap.size + 2) 0 _ rfl H2z'.out ?_)
    | (refine wpList_load_val rfl _ rfl (w.heap.size + 1) 0 _ rfl H2y.out ?_)
    | fail)
  rw [← hV1, ← hV2, ← hV3]
  clear hV1 hV2 hV3
  go_wp2_with (first
    | (refine wpList_load_val rfl _ rfl w.heap.size 0 _ rfl (HXx.out _ Hb6.out) ?_)
    | (refine wpList_load_val rfl _ rfl (w.heap.size + 1) 0 _ rfl (HXy.out _ Hb6.out) ?_)
    | fail)
  refine (Hap.out _ Hb6.out).mono ?_
  rintro e V4 ⟨rfl, hb4⟩
  have HB4 := Lib.hid hb4
  clear hb4
  have hle1 : decide (A ≤ (tx.size : Int)) = true := by simp; exact HLe.out.1
  have hle2 : decide (A ≤ (ty.size : Int)) = true := by simp; exact HLe.out.2
  have heq := HE.out
  generalize hbb : (A == -1) = bb at heq
  clear HLe HE
  go_upto_region 9 with fail
  cases bb
  · obtain ⟨wd, hwd⟩ : ∃ wd, wd = V4.drew := ⟨_, rfl⟩
    have hKd : Below V4.heap.size V4 wd := by rw [hwd]; exact (Below.refl _ _).drew
    have hNE := HeldW.nonempty (S := fun w' => Below V4.heap.size V4 w') hKd
    refine wp_region_hold (fun w' => Below V4.heap.size V4 w') (.plain 0 (.plain 2 (.plain 5 (.sole 1 (.sole 3 (.sole 4 (.plain 6 (.plain 7 (.plain 8 (.plain 9 (.plain 10 (.plain 11 (.plain 12 (.plain 13 (.plain 15 (.sole 14 (.plain 16 (.plain 17 (.plain 18 (.plain 19 (.plain 21 (.sole 20 (.sole 22 (.sole 23 (.plain 24 (.plain 25 (.plain 26 (.plain 27 (.plain 28 (.plain 29 (.plain 30 (.plain 31 (.plain 32 (.plain 33 (.plain 34 (.plain 35 (.plain 36 (.plain 37 (.plain 38 (.plain 39 (.plain 40 (.plain 41 (.plain 42 (.plain 43 (.plain 44 (.plain 45 (.plain 46 .done))))))))))))))))))))))))))))))))))))))))))))))) (by rw [← hwd]; exact hKd) (by kernel_rfl) (by kernel_rfl) (fun c a d v w h => by cases d <;> exact h) ?_
    rw [← hwd]
    clear hwd
    repeat (first
        | (refine' hold_skip ?_ ?_ ?_
           rotate_left 1
           · simp only [List.getElem?_toArray, List.getElem?_cons_zero, List.getElem?_cons_succ]; exact rfl
           · exact rfl
           simp only [Act.put, List.setIfInBounds_toArray, List.set_cons_zero, List.set_cons_succ])
        | (refine' hold_want ?_ ?_ (fun J hJ => ?_)
           rotate_left 1
           · simp only [List.getElem?_toArray, List.getElem?_cons_zero, List.getElem?_cons_succ]; exact rfl
           · exact rfl
           first
           | (refine quiet_load_val _ rfl w.heap.size 0 [.int .i64 k1, .int .u8 z1, .slice a1 len1 cap1] rfl (fun w' ⟨L, hL⟩ => hL ▸ HXx.out _ (Hb6.out.trans ((et3 HB4.out L.ok).mono Hb6.out.size))) ?_; refine hJ _ ?_; clear hJ J; try simp only [Act.put, List.setIfInBounds_toArray, List.set_cons_zero, List.set_cons_succ])
           | (refine quiet_load_val _ rfl (w.heap.size + 1) 0 [.int .i64 k2, .int .u8 z2, .slice a2 len2 cap2] rfl (fun w' ⟨L, hL⟩ => hL ▸ HXy.out _ (Hb6.out.trans ((et3 HB4.out L.ok).mono Hb6.out.size))) ?_; refine hJ _ ?_; clear hJ J; try simp only [Act.put, List.setIfInBounds_toArray, List.set_cons_zero, List.set_cons_succ])
           | (refine quiet_load_val _ rfl (w.heap.size + 2) 0 [.int .i64 k3, .int .u8 z3, .slice a3 len3 cap3] rfl (fun w' ⟨L, hL⟩ => hL ▸ HXz.out _ (Hb6.out.trans ((et3 HB4.out L.ok).mono Hb6.out.size))) ?_; refine hJ _ ?_; clear hJ J; try simp only [Act.put, List.setIfInBounds_toArray, List.set_cons_zero, List.set_cons_succ])
           | (refine quiet_load_val _ rfl (W6.heap.size + 2) 0 [.int .i64 3, .int .u8 0, .slice (some ⟨W6.heap.size, 0, none⟩) 2 2] rfl (fun w' ⟨L, hL⟩ => hL ▸ HV1.out.below Hbk.out (et3 HB4.out L.ok)) ?_; refine hJ _ ?_; clear hJ J; try simp only [Act.put, List.setIfInBounds_toArray, List.set_cons_zero, List.set_cons_succ])
           | (refine quiet_load_val _ rfl (W6.heap.size + 2) 3 [.int .i64 3, .int .u8 0, .slice (some ⟨W6.heap.size + 1, 0, none⟩) 2 2] rfl (fun w' ⟨L, hL⟩ => hL ▸ HV2.out.below Hbk.out (et3 HB4.out L.ok)) ?_; refine hJ _ ?_; clear hJ J; try simp only [Act.put, List.setIfInBounds_toArray, List.set_cons_zero, List.set_cons_succ])
           | (refine quiet_extract _ _ rfl _ _ rfl rfl ?_; refine hJ _ ?_; clear hJ J; try simp only [Act.put, List.setIfInBounds_toArray, List.set_cons_zero, List.set_cons_succ])
           | (go_big_quiet_op; refine hJ _ ?_; clear hJ J; try simp only [Act.put, List.setIfInBounds_toArray, List.set_cons_zero, List.set_cons_succ])))
    refine' hold_sole ?_ ?_ (fun J hJ => ?_)
    rotate_left 1
    · simp only [List.getElem?_toArray, List.getElem?_cons_zero, List.getElem?_cons_succ]; exact rfl
    · exact rfl
    go_simp
    refine (left_walk (HAx.out _ (Hb6.out.trans ((et3 HB4.out hKd).mono Hb6.out.size)))).mono ?_
    rintro e w21 ⟨zz21, rfl, hat21, hb21⟩
    obtain ⟨p21, q21, r21, u21, v21, rfl⟩ := at_lit hat21
    have hK21 : Below V4.heap.size V4 w21 := et3 hKd hb21
    refine hJ _ _ hK21 ?_
    clear hJ J hb21
    try simp only [Act.put, List.setIfInBounds_toArray, List.set_cons_zero, List.set_cons_succ]
    refine' hold_sole ?_ ?_ (fun J hJ => ?_)
    rotate_left 1
    · simp only [List.getElem?_toArray, List.getElem?_cons_zero, List.getElem?_cons_succ]; exact rfl
    · exact rfl
    go_simp
    refine (left_walk (HAy.out _ (Hb6.out.trans ((et3 HB4.out hK21).mono Hb6.out.size)))).mono ?_
    rintro e w22 ⟨zz22, rfl, hat22, hb22⟩
    obtain ⟨p22, q22, r22, u22, v22, rfl⟩ := at_lit hat22
    have hK22 : Below V4.heap.size V4 w22 := et3 hK21 hb22
    have hm44_22 := eat3 hat21 hb22
    refine hJ _ _ hK22 ?_
    clear hJ J hb22
    try simp only [Act.put, List.setIfInBounds_toArray, List.set_cons_zero, List.set_cons_succ]
    refine' hold_sole ?_ ?_ (fun J hJ => ?_)
    rotate_left 1
    · simp only [List.getElem?_toArray, List.getElem?_cons_zero, List.getElem?_cons_succ]; exact rfl
    · exact rfl
    go_simp
    refine (Hll.out _ _ _ hm44_22 hat22).mono ?_
    rintro e w23 ⟨rfl, hb23⟩
    have hK23 : Below V4.heap.size V4 w23 := et3 hK22 hb23
    refine hJ _ _ hK23 ?_
    clear hJ J hb23
    try simp only [Act.put, List.setIfInBounds_toArray, List.set_cons_zero, List.set_cons_succ]
    repeat (first
        | (refine' hold_skip ?_ ?_ ?_
           rotate_left 1
           · simp only [List.getElem?_toArray, List.getElem?_cons_zero, List.getElem?_cons_succ]; exact rfl
           · exact rfl
           simp only [Act.put, List.setIfInBounds_toArray, List.set_cons_zero, List.set_cons_succ])
        | (refine' hold_want ?_ ?_ (fun J hJ => ?_)
           rotate_left 1
           · simp only [List.getElem?_toArray, List.getElem?_cons_zero, List.getElem?_cons_succ]; exact rfl
           · exact rfl
           first
           | (refine quiet_load_val _ rfl w.heap.size 0 [.int .i64 k1, .int .u8 z1, .slice a1 len1 cap1] rfl (fun w' ⟨L, hL⟩ => hL ▸ HXx.out _ (Hb6.out.trans ((et3 HB4.out L.ok).mono Hb6.out.size))) ?_; refine hJ _ ?_; clear hJ J; try simp only [Act.put, List.setIfInBounds_toArray, List.set_cons_zero, List.set_cons_succ])
           | (refine quiet_load_val _ rfl (w.heap.size + 1) 0 [.int .i64 k2, .int .u8 z2, .slice a2 len2 cap2] rfl (fun w' ⟨L, hL⟩ => hL ▸ HXy.out _ (Hb6.out.trans ((et3 HB4.out L.ok).mono Hb6.out.size))) ?_; refine hJ _ ?_; clear hJ J; try simp only [Act.put, List.setIfInBounds_toArray, List.set_cons_zero, List.set_cons_succ])
           | (refine quiet_load_val _ rfl (w.heap.size + 2) 0 [.int .i64 k3, .int .u8 z3, .slice a3 len3 cap3] rfl (fun w' ⟨L, hL⟩ => hL ▸ HXz.out _ (Hb6.out.trans ((et3 HB4.out L.ok).mono Hb6.out.size))) ?_; refine hJ _ ?_; clear hJ J; try simp only [Act.put, List.setIfInBounds_toArray, List.set_cons_zero, List.set_cons_succ])
           | (refine quiet_load_val _ rfl (W6.heap.size + 2) 0 [.int .i64 3, .int .u8 0, .slice (some ⟨W6.heap.size, 0, none⟩) 2 2] rfl (fun w' ⟨L, hL⟩ => hL ▸ HV1.out.below Hbk.out (et3 HB4.out L.ok)) ?_; refine hJ _ ?_; clear hJ J; try simp only [Act.put, List.setIfInBounds_toArray, List.set_cons_zero, List.set_cons_succ])
           | (refine quiet_load_val _ rfl (W6.heap.size + 2) 3 [.int .i64 3, .int .u8 0, .slice (some ⟨W6.heap.size + 1, 0, none⟩) 2 2] rfl (fun w' ⟨L, hL⟩ => hL ▸ HV2.out.below Hbk.out (et3 HB4.out L.ok)) ?_; refine hJ _ ?_; clear hJ J; try simp only [Act.put, List.setIfInBounds_toArray, List.set_cons_zero, List.set_cons_succ])
           | (refine quiet_extract _ _ rfl _ _ rfl rfl ?_; refine hJ _ ?_; clear hJ J; try simp only [Act.put, List.setIfInBounds_toArray, List.set_cons_zero, List.set_cons_succ])
           | (go_big_quiet_op; refine hJ _ ?_; clear hJ J; try simp only [Act.put, List.setIfInBounds_toArray, List.set_cons_zero, List.set_cons_succ])))
    refine' hold_sole ?_ ?_ (fun J hJ => ?_)
    rotate_left 1
    · simp only [List.getElem?_toArray, List.getElem?_cons_zero, List.getElem?_cons_succ]; exact rfl
    · exact rfl
    go_simp
    refine (Hpp.out _ _ _ (eat3 HM1.out (et3 HB4.out hK23)) (eat3 HM2.out (et3 HB4.out hK23))).mono ?_
    rintro e w24 ⟨rfl, hb24⟩
    have hK24 : Below V4.heap.size V4 w24 := et3 hK23 hb24
    refine hJ _ _ hK24 ?_
    clear hJ J hb24
    try simp only [Act.put, List.setIfInBounds_toArray, List.set_cons_zero, List.set_cons_succ]
    repeat (first
        | (refine' hold_skip ?_ ?_ ?_
           rotate_left 1
           · simp only [List.getElem?_toArray, List.getElem?_cons_zero, List.getElem?_cons_succ]; exact rfl
           · exact rfl
           simp only [Act.put, List.setIfInBounds_toArray, List.set_cons_zero, List.set_cons_succ])
        | (refine' hold_want ?_ ?_ (fun J hJ => ?_)
           rotate_left 1
           · simp only [List.getElem?_toArray, List.getElem?_cons_zero, List.getElem?_cons_succ]; exact rfl
           · exact rfl
           first
           | (refine quiet_load_val _ rfl w.heap.size 0 [.int .i64 k1, .int .u8 z1, .slice a1 len1 cap1] rfl (fun w' ⟨L, hL⟩ => hL ▸ HXx.out _ (Hb6.out.trans ((et3 HB4.out L.ok).mono Hb6.out.size))) ?_; refine hJ _ ?_; clear hJ J; try simp only [Act.put, List.setIfInBounds_toArray, List.set_cons_zero, List.set_cons_succ])
           | (refine quiet_load_val _ rfl (w.heap.size + 1) 0 [.int .i64 k2, .int .u8 z2, .slice a2 len2 cap2] rfl (fun w' ⟨L, hL⟩ => hL ▸ HXy.out _ (Hb6.out.trans ((et3 HB4.out L.ok).mono Hb6.out.size))) ?_; refine hJ _ ?_; clear hJ J; try simp only [Act.put, List.setIfInBounds_toArray, List.set_cons_zero, List.set_cons_succ])
           | (refine quiet_load_val _ rfl (w.heap.size + 2) 0 [.int .i64 k3, .int .u8 z3, .slice a3 len3 cap3] rfl (fun w' ⟨L, hL⟩ => hL ▸ HXz.out _ (Hb6.out.trans ((et3 HB4.out L.ok).mono Hb6.out.size))) ?_; refine hJ _ ?_; clear hJ J; try simp only [Act.put, List.setIfInBounds_toArray, List.set_cons_zero, List.set_cons_succ])
           | (refine quiet_load_val _ rfl (W6.heap.size + 2) 0 [.int .i64 3, .int .u8 0, .slice (some ⟨W6.heap.size, 0, none⟩) 2 2] rfl (fun w' ⟨L, hL⟩ => hL ▸ HV1.out.below Hbk.out (et3 HB4.out L.ok)) ?_; refine hJ _ ?_; clear hJ J; try simp only [Act.put, List.setIfInBounds_toArray, List.set_cons_zero, List.set_cons_succ])
           | (refine quiet_load_val _ rfl (W6.heap.size + 2) 3 [.int .i64 3, .int .u8 0, .slice (some ⟨W6.heap.size + 1, 0, none⟩) 2 2] rfl (fun w' ⟨L, hL⟩ => hL ▸ HV2.out.below Hbk.out (et3 HB4.out L.ok)) ?_; refine hJ _ ?_; clear hJ J; try simp only [Act.put, List.setIfInBounds_toArray, List.set_cons_zero, List.set_cons_succ])
           | (refine quiet_extract _ _ rfl _ _ rfl rfl ?_; refine hJ _ ?_; clear hJ J; try simp only [Act.put, List.setIfInBounds_toArray, List.set_cons_zero, List.set_cons_succ])
           | (go_big_quiet_op; refine hJ _ ?_; clear hJ J; try simp only [Act.put, List.setIfInBounds_toArray, List.set_cons_zero, List.set_cons_succ])))
    refine' hold_sole ?_ ?_ (fun J hJ => ?_)
    rotate_left 1
    · simp only [List.getElem?_toArray, List.getElem?_cons_zero, List.getElem?_cons_succ]; exact rfl
    · exact rfl
    go_simp
    refine (left_walk (HAx.out _ (Hb6.out.trans ((et3 HB4.out hK24).mono Hb6.out.size)))).mono ?_
    rintro e w25 ⟨zz25, rfl, hat25, hb25⟩
    obtain ⟨p25, q25, r25, u25, v25, rfl⟩ := at_lit hat25
    have hK25 : Below V4.heap.size V4 w25 := et3 hK24 hb25
    refine hJ _ _ hK25 ?_
    clear hJ J hb25
    try simp only [Act.put, List.setIfInBounds_toArray, List.set_cons_zero, List.set_cons_succ]
    refine' hold_sole ?_ ?_ (fun J hJ => ?_)
    rotate_left 1
    · simp only [List.getElem?_toArray, List.getElem?_cons_zero, List.getElem?_cons_succ]; exact rfl
    · exact rfl
    go_simp
    refine (right_walk (HAy.out _ (Hb6.out.trans ((et3 HB4.out hK25).mono Hb6.out.size)))).mono ?_
    rintro e w26 ⟨zz26, rfl, hat26, hb26⟩
    obtain ⟨p26, q26, r26, u26, v26, rfl⟩ := at_lit hat26
    have hK26 : Below V4.heap.size V4 w26 := et3 hK25 hb26
    have hm63_26 := eat3 hat25 hb26
    refine hJ _ _ hK26 ?_
    clear hJ J hb26
    try simp only [Act.put, List.setIfInBounds_toArray, List.set_cons_zero, List.set_cons_succ]
    refine' hold_sole ?_ ?_ (fun J hJ => ?_)
    rotate_left 1
    · simp only [List.getElem?_toArray, List.getElem?_cons_zero, List.getElem?_cons_succ]; exact rfl
    · exact rfl
    go_simp
    refine (Hlr.out _ _ _ hm63_26 hat26).mono ?_
    rintro e w27 ⟨rfl, hb27⟩
    have hK27 : Below V4.heap.size V4 w27 := et3 hK26 hb27
    refine hJ _ _ hK27 ?_
    clear hJ J hb27
    try simp only [Act.put, List.setIfInBounds_toArray, List.set_cons_zero, List.set_cons_succ]
    repeat (first
        | (refine' hold_skip ?_ ?_ ?_
           rotate_left 1
           · simp only [List.getElem?_toArray, List.getElem?_cons_zero, List.getElem?_cons_succ]; exact rfl
           · exact rfl
           simp only [Act.put, List.setIfInBounds_toArray, List.set_cons_zero, List.set_cons_succ])
        | (refine' hold_want ?_ ?_ (fun J hJ => ?_)
           rotate_left 1
           · simp only [List.getElem?_toArray, List.getElem?_cons_zero, List.getElem?_cons_succ]; exact rfl
           · exact rfl
           first
           | (refine quiet_load_val _ rfl w.heap.size 0 [.int .i64 k1, .int .u8 z1, .slice a1 len1 cap1] rfl (fun w' ⟨L, hL⟩ => hL ▸ HXx.out _ (Hb6.out.trans ((et3 HB4.out L.ok).mono Hb6.out.size))) ?_; refine hJ _ ?_; clear hJ J; try simp only [Act.put, List.setIfInBounds_toArray, List.set_cons_zero, List.set_cons_succ])
           | (refine quiet_load_val _ rfl (w.heap.size + 1) 0 [.int .i64 k2, .int .u8 z2, .slice a2 len2 cap2] rfl (fun w' ⟨L, hL⟩ => hL ▸ HXy.out _ (Hb6.out.trans ((et3 HB4.out L.ok).mono Hb6.out.size))) ?_; refine hJ _ ?_; clear hJ J; try simp only [Act.put, List.setIfInBounds_toArray, List.set_cons_zero, List.set_cons_succ])
           | (refine quiet_load_val _ rfl (w.heap.size + 2) 0 [.int .i64 k3, .int .u8 z3, .slice a3 len3 cap3] rfl (fun w' ⟨L, hL⟩ => hL ▸ HXz.out _ (Hb6.out.trans ((et3 HB4.out L.ok).mono Hb6.out.size))) ?_; refine hJ _ ?_; clear hJ J; try simp only [Act.put, List.setIfInBounds_toArray, List.set_cons_zero, List.set_cons_succ])
           | (refine quiet_load_val _ rfl (W6.heap.size + 2) 0 [.int .i64 3, .int .u8 0, .slice (some ⟨W6.heap.size, 0, none⟩) 2 2] rfl (fun w' ⟨L, hL⟩ => hL ▸ HV1.out.below Hbk.out (et3 HB4.out L.ok)) ?_; refine hJ _ ?_; clear hJ J; try simp only [Act.put, List.setIfInBounds_toArray, List.set_cons_zero, List.set_cons_succ])
           | (refine quiet_load_val _ rfl (W6.heap.size + 2) 3 [.int .i64 3, .int .u8 0, .slice (some ⟨W6.heap.size + 1, 0, none⟩) 2 2] rfl (fun w' ⟨L, hL⟩ => hL ▸ HV2.out.below Hbk.out (et3 HB4.out L.ok)) ?_; refine hJ _ ?_; clear hJ J; try simp only [Act.put, List.setIfInBounds_toArray, List.set_cons_zero, List.set_cons_succ])
           | (refine quiet_extract _ _ rfl _ _ rfl rfl ?_; refine hJ _ ?_; clear hJ J; try simp only [Act.put, List.setIfInBounds_toArray, List.set_cons_zero, List.set_cons_succ])
           | (go_big_quiet_op; refine hJ _ ?_; clear hJ J; try simp only [Act.put, List.setIfInBounds_toArray, List.set_cons_zero, List.set_cons_succ])))
    refine hold_done ?_
    have HF := Lib.hid (Hb6.out.trans ((et3 HB4.out hK27).mono Hb6.out.size))
    go_wp2_with fail
    go_ret
    exact ⟨rfl, HbW.out.trans (HF.out.mono HbW.out.size)⟩
  · obtain ⟨wd, hwd⟩ : ∃ wd, wd = V4.drew := ⟨_, rfl⟩
    have hKd : Below V4.heap.size V4 wd := by rw [hwd]; exact (Below.refl _ _).drew
    have hNE := HeldW.nonempty (S := fun w' => Below V4.heap.size V4 w') hKd
    refine wp_region_hold (fun w' => Below V4.heap.size V4 w') (.plain 0 (.plain 2 (.plain 5 (.sole 1 (.sole 3 (.sole 4 (.plain 6 (.plain 7 (.plain 8 (.plain 9 (.plain 10 (.plain 11 (.plain 12 (.plain 13 (.plain 15 (.sole 14 (.plain 16 (.plain 17 (.plain 18 (.plain 19 (.plain 21 (.sole 20 (.sole 22 (.sole 23 (.plain 24 (.plain 25 (.plain 26 (.plain 27 (.plain 28 (.plain 29 (.plain 30 (.plain 31 (.plain 32 (.plain 33 (.plain 34 (.plain 35 (.plain 36 (.plain 37 (.plain 38 (.plain 39 (.plain 40 (.plain 41 (.plain 42 (.plain 43 (.plain 44 (.plain 45 (.plain 46 .done))))))))))))))))))))))))))))))))))))))))))))))) (by rw [← hwd]; exact hKd) (by kernel_rfl) (by kernel_rfl) (fun c a d v w h => by cases d <;> exact h) ?_
    rw [← hwd]
    clear hwd
    repeat (first
        | (refine' hold_skip ?_ ?_ ?_
           rotate_left 1
           · simp only [List.getElem?_toArray, List.getElem?_cons_zero, List.getElem?_cons_succ]; exact rfl
           · exact rfl
           simp only [Act.put, List.setIfInBounds_toArray, List.set_cons_zero, List.set_cons_succ])
        | (refine' hold_want ?_ ?_ (fun J hJ => ?_)
           rotate_left 1
           · simp only [List.getElem?_toArray, List.getElem?_cons_zero, List.getElem?_cons_succ]; exact rfl
           · exact rfl
           first
           | (refine quiet_load_val _ rfl w.heap.size 0 [.int .i64 k1, .int .u8 z1, .slice a1 len1 cap1] rfl (fun w' ⟨L, hL⟩ => hL ▸ HXx.out _ (Hb6.out.trans ((et3 HB4.out L.ok).mono Hb6.out.size))) ?_; refine hJ _ ?_; clear hJ J; try simp only [Act.put, List.setIfInBounds_toArray, List.set_cons_zero, List.set_cons_succ])
           | (refine quiet_load_val _ rfl (w.heap.size + 1) 0 [.int .i64 k2, .int .u8 z2, .slice a2 len2 cap2] rfl (fun w' ⟨L, hL⟩ => hL ▸ HXy.out _ (Hb6.out.trans ((et3 HB4.out L.ok).mono Hb6.out.size))) ?_; refine hJ _ ?_; clear hJ J; try simp only [Act.put, List.setIfInBounds_toArray, List.set_cons_zero, List.set_cons_succ])
           | (refine quiet_load_val _ rfl (w.heap.size + 2) 0 [.int .i64 k3, .int .u8 z3, .slice a3 len3 cap3] rfl (fun w' ⟨L, hL⟩ => hL ▸ HXz.out _ (Hb6.out.trans ((et3 HB4.out L.ok).mono Hb6.out.size))) ?_; refine hJ _ ?_; clear hJ J; try simp only [Act.put, List.setIfInBounds_toArray, List.set_cons_zero, List.set_cons_succ])
           | (refine quiet_load_val _ rfl (W6.heap.size + 2) 0 [.int .i64 3, .int .u8 0, .slice (some ⟨W6.heap.size, 0, none⟩) 2 2] rfl (fun w' ⟨L, hL⟩ => hL ▸ HV1.out.below Hbk.out (et3 HB4.out L.ok)) ?_; refine hJ _ ?_; clear hJ J; try simp only [Act.put, List.setIfInBounds_toArray, List.set_cons_zero, List.set_cons_succ])
           | (refine quiet_load_val _ rfl (W6.heap.size + 2) 3 [.int .i64 3, .int .u8 0, .slice (some ⟨W6.heap.size + 1, 0, none⟩) 2 2] rfl (fun w' ⟨L, hL⟩ => hL ▸ HV2.out.below Hbk.out (et3 HB4.out L.ok)) ?_; refine hJ _ ?_; clear hJ J; try simp only [Act.put, List.setIfInBounds_toArray, List.set_cons_zero, List.set_cons_succ])
           | (refine quiet_extract _ _ rfl _ _ rfl rfl ?_; refine hJ _ ?_; clear hJ J; try simp only [Act.put, List.setIfInBounds_toArray, List.set_cons_zero, List.set_cons_succ])
           | (go_big_quiet_op; refine hJ _ ?_; clear hJ J; try simp only [Act.put, List.setIfInBounds_toArray, List.set_cons_zero, List.set_cons_succ])))
    refine' hold_sole ?_ ?_ (fun J hJ => ?_)
    rotate_left 1
    · simp only [List.getElem?_toArray, List.getElem?_cons_zero, List.getElem?_cons_succ]; exact rfl
    · exact rfl
    go_simp
    refine (left_walk (HAx.out _ (Hb6.out.trans ((et3 HB4.out hKd).mono Hb6.out.size)))).mono ?_
    rintro e w28 ⟨zz28, rfl, hat28, hb28⟩
    obtain ⟨p28, q28, r28, u28, v28, rfl⟩ := at_lit hat28
    have hK28 : Below V4.heap.size V4 w28 := et3 hKd hb28
    refine hJ _ _ hK28 ?_
    clear hJ J hb28
    try simp only [Act.put, List.setIfInBounds_toArray, List.set_cons_zero, List.set_cons_succ]
    refine' hold_sole ?_ ?_ (fun J hJ => ?_)
    rotate_left 1
    · simp only [List.getElem?_toArray, List.getElem?_cons_zero, List.getElem?_cons_succ]; exact rfl
    · exact rfl
    go_simp
    refine (left_walk (HAy.out _ (Hb6.out.trans ((et3 HB4.out hK28).mono Hb6.out.size)))).mono ?_
    rintro e w29 ⟨zz29, rfl, hat29, hb29⟩
    obtain ⟨p29, q29, r29, u29, v29, rfl⟩ := at_lit hat29
    have hK29 : Below V4.heap.size V4 w29 := et3 hK28 hb29
    have hm44_29 := eat3 hat28 hb29
    refine hJ _ _ hK29 ?_
    clear hJ J hb29
    try simp only [Act.put, List.setIfInBounds_toArray, List.set_cons_zero, List.set_cons_succ]
    refine' hold_sole ?_ ?_ (fun J hJ => ?_)
    rotate_left 1
    · simp only [List.getElem?_toArray, List.getElem?_cons_zero, List.getElem?_cons_succ]; exact rfl
    · exact rfl
    go_simp
    refine (Hll.out _ _ _ hm44_29 hat29).mono ?_
    rintro e w30 ⟨rfl, hb30⟩
    have hK30 : Below V4.heap.size V4 w30 := et3 hK29 hb30
    refine hJ _ _ hK30 ?_
    clear hJ J hb30
    try simp only [Act.put, List.setIfInBounds_toArray, List.set_cons_zero, List.set_cons_succ]
    repeat (first
        | (refine' hold_skip ?_ ?_ ?_
           rotate_left 1
           · simp only [List.getElem?_toArray, List.getElem?_cons_zero, List.getElem?_cons_succ]; exact rfl
           · exact rfl
           simp only [Act.put, List.setIfInBounds_toArray, List.set_cons_zero, List.set_cons_succ])
        | (refine' hold_want ?_ ?_ (fun J hJ => ?_)
           rotate_left 1
           · simp only [List.getElem?_toArray, List.getElem?_cons_zero, List.getElem?_cons_succ]; exact rfl
           · exact rfl
           first
           | (refine quiet_load_val _ rfl w.heap.size 0 [.int .i64 k1, .int .u8 z1, .slice a1 len1 cap1] rfl (fun w' ⟨L, hL⟩ => hL ▸ HXx.out _ (Hb6.out.trans ((et3 HB4.out L.ok).mono Hb6.out.size))) ?_; refine hJ _ ?_; clear hJ J; try simp only [Act.put, List.setIfInBounds_toArray, List.set_cons_zero, List.set_cons_succ])
           | (refine quiet_load_val _ rfl (w.heap.size + 1) 0 [.int .i64 k2, .int .u8 z2, .slice a2 len2 cap2] rfl (fun w' ⟨L, hL⟩ => hL ▸ HXy.out _ (Hb6.out.trans ((et3 HB4.out L.ok).mono Hb6.out.size))) ?_; refine hJ _ ?_; clear hJ J; try simp only [Act.put, List.setIfInBounds_toArray, List.set_cons_zero, List.set_cons_succ])
           | (refine quiet_load_val _ rfl (w.heap.size + 2) 0 [.int .i64 k3, .int .u8 z3, .slice a3 len3 cap3] rfl (fun w' ⟨L, hL⟩ => hL ▸ HXz.out _ (Hb6.out.trans ((et3 HB4.out L.ok).mono Hb6.out.size))) ?_; refine hJ _ ?_; clear hJ J; try simp only [Act.put, List.setIfInBounds_toArray, List.set_cons_zero, List.set_cons_succ])
           | (refine quiet_load_val _ rfl (W6.heap.size + 2) 0 [.int .i64 3, .int .u8 0, .slice (some ⟨W6.heap.size, 0, none⟩) 2 2] rfl (fun w' ⟨L, hL⟩ => hL ▸ HV1.out.below Hbk.out (et3 HB4.out L.ok)) ?_; refine hJ _ ?_; clear hJ J; try simp only [Act.put, List.setIfInBounds_toArray, List.set_cons_zero, List.set_cons_succ])
           | (refine quiet_load_val _ rfl (W6.heap.size + 2) 3 [.int .i64 3, .int .u8 0, .slice (some ⟨W6.heap.size + 1, 0, none⟩) 2 2] rfl (fun w' ⟨L, hL⟩ => hL ▸ HV2.out.below Hbk.out (et3 HB4.out L.ok)) ?_; refine hJ _ ?_; clear hJ J; try simp only [Act.put, List.setIfInBounds_toArray, List.set_cons_zero, List.set_cons_succ])
           | (refine quiet_extract _ _ rfl _ _ rfl rfl ?_; refine hJ _ ?_; clear hJ J; try simp only [Act.put, List.setIfInBounds_toArray, List.set_cons_zero, List.set_cons_succ])
           | (go_big_quiet_op; refine hJ _ ?_; clear hJ J; try simp only [Act.put, List.setIfInBounds_toArray, List.set_cons_zero, List.set_cons_succ])))
    refine' hold_sole ?_ ?_ (fun J hJ => ?_)
    rotate_left 1
    · simp only [List.getElem?_toArray, List.getElem?_cons_zero, List.getElem?_cons_succ]; exact rfl
    · exact rfl
    go_simp
    refine (Hpp.out _ _ _ (eat3 HM1.out (et3 HB4.out hK30)) (eat3 HM2.out (et3 HB4.out hK30))).mono ?_
    rintro e w31 ⟨rfl, hb31⟩
    have hK31 : Below V4.heap.size V4 w31 := et3 hK30 hb31
    refine hJ _ _ hK31 ?_
    clear hJ J hb31
    try simp only [Act.put, List.setIfInBounds_toArray, List.set_cons_zero, List.set_cons_succ]
    repeat (first
        | (refine' hold_skip ?_ ?_ ?_
           rotate_left 1
           · simp only [List.getElem?_toArray, List.getElem?_cons_zero, List.getElem?_cons_succ]; exact rfl
           · exact rfl
           simp only [Act.put, List.setIfInBounds_toArray, List.set_cons_zero, List.set_cons_succ])
        | (refine' hold_want ?_ ?_ (fun J hJ => ?_)
           rotate_left 1
           · simp only [List.getElem?_toArray, List.getElem?_cons_zero, List.getElem?_cons_succ]; exact rfl
           · exact rfl
           first
           | (refine quiet_load_val _ rfl w.heap.size 0 [.int .i64 k1, .int .u8 z1, .slice a1 len1 cap1] rfl (fun w' ⟨L, hL⟩ => hL ▸ HXx.out _ (Hb6.out.trans ((et3 HB4.out L.ok).mono Hb6.out.size))) ?_; refine hJ _ ?_; clear hJ J; try simp only [Act.put, List.setIfInBounds_toArray, List.set_cons_zero, List.set_cons_succ])
           | (refine quiet_load_val _ rfl (w.heap.size + 1) 0 [.int .i64 k2, .int .u8 z2, .slice a2 len2 cap2] rfl (fun w' ⟨L, hL⟩ => hL ▸ HXy.out _ (Hb6.out.trans ((et3 HB4.out L.ok).mono Hb6.out.size))) ?_; refine hJ _ ?_; clear hJ J; try simp only [Act.put, List.setIfInBounds_toArray, List.set_cons_zero, List.set_cons_succ])
           | (refine quiet_load_val _ rfl (w.heap.size + 2) 0 [.int .i64 k3, .int .u8 z3, .slice a3 len3 cap3] rfl (fun w' ⟨L, hL⟩ => hL ▸ HXz.out _ (Hb6.out.trans ((et3 HB4.out L.ok).mono Hb6.out.size))) ?_; refine hJ _ ?_; clear hJ J; try simp only [Act.put, List.setIfInBounds_toArray, List.set_cons_zero, List.set_cons_succ])
           | (refine quiet_load_val _ rfl (W6.heap.size + 2) 0 [.int .i64 3, .int .u8 0, .slice (some ⟨W6.heap.size, 0, none⟩) 2 2] rfl (fun w' ⟨L, hL⟩ => hL ▸ HV1.out.below Hbk.out (et3 HB4.out L.ok)) ?_; refine hJ _ ?_; clear hJ J; try simp only [Act.put, List.setIfInBounds_toArray, List.set_cons_zero, List.set_cons_succ])
           | (refine quiet_load_val _ rfl (W6.heap.size + 2) 3 [.int .i64 3, .int .u8 0, .slice (some ⟨W6.heap.size + 1, 0, none⟩) 2 2] rfl (fun w' ⟨L, hL⟩ => hL ▸ HV2.out.below Hbk.out (et3 HB4.out L.ok)) ?_; refine hJ _ ?_; clear hJ J; try simp only [Act.put, List.setIfInBounds_toArray, List.set_cons_zero, List.set_cons_succ])
           | (refine quiet_extract _ _ rfl _ _ rfl rfl ?_; refine hJ _ ?_; clear hJ J; try simp only [Act.put, List.setIfInBounds_toArray, List.set_cons_zero, List.set_cons_succ])
           | (go_big_quiet_op; refine hJ _ ?_; clear hJ J; try simp only [Act.put, List.setIfInBounds_toArray, List.set_cons_zero, List.set_cons_succ])))
    refine' hold_sole ?_ ?_ (fun J hJ => ?_)
    rotate_left 1
    · simp only [List.getElem?_toArray, List.getElem?_cons_zero, List.getElem?_cons_succ]; exact rfl
    · exact rfl
    go_simp
    refine (left_walk (HAx.out _ (Hb6.out.trans ((et3 HB4.out hK31).mono Hb6.out.size)))).mono ?_
    rintro e w32 ⟨zz32, rfl, hat32, hb32⟩
    obtain ⟨p32, q32, r32, u32, v32, rfl⟩ := at_lit hat32
    have hK32 : Below V4.heap.size V4 w32 := et3 hK31 hb32
    refine hJ _ _ hK32 ?_
    clear hJ J hb32
    try simp only [Act.put, List.setIfInBounds_toArray, List.set_cons_zero, List.set_cons_succ]
    refine' hold_sole ?_ ?_ (fun J hJ => ?_)
    rotate_left 1
    · simp only [List.getElem?_toArray, List.getElem?_cons_zero, List.getElem?_cons_succ]; exact rfl
    · exact rfl
    go_simp
    refine (right_walk (HAy.out _ (Hb6.out.trans ((et3 HB4.out hK32).mono Hb6.out.size)))).mono ?_
    rintro e w33 ⟨zz33, rfl, hat33, hb33⟩
    obtain ⟨p33, q33, r33, u33, v33, rfl⟩ := at_lit hat33
    have hK33 : Below V4.heap.size V4 w33 := et3 hK32 hb33
    have hm63_33 := eat3 hat32 hb33
    refine hJ _ _ hK33 ?_
    clear hJ J hb33
    try simp only [Act.put, List.setIfInBounds_toArray, List.set_cons_zero, List.set_cons_succ]
    refine' hold_sole ?_ ?_ (fun J hJ => ?_)
    rotate_left 1
    · simp only [List.getElem?_toArray, List.getElem?_cons_zero, List.getElem?_cons_succ]; exact rfl
    · exact rfl
    go_simp
    refine (Hlr.out _ _ _ hm63_33 hat33).mono ?_
    rintro e w34 ⟨rfl, hb34⟩
    have hK34 : Below V4.heap.size V4 w34 := et3 hK33 hb34
    refine hJ _ _ hK34 ?_
    clear hJ J hb34
    try simp only [Act.put, List.setIfInBounds_toArray, List.set_cons_zero, List.set_cons_succ]
    repeat (first
        | (refine' hold_skip ?_ ?_ ?_
           rotate_left 1
           · simp only [List.getElem?_toArray, List.getElem?_cons_zero, List.getElem?_cons_succ]; exact rfl
           · exact rfl
           simp only [Act.put, List.setIfInBounds_toArray, List.set_cons_zero, List.set_cons_succ])
        | (refine' hold_want ?_ ?_ (fun J hJ => ?_)
           rotate_left 1
           · simp only [List.getElem?_toArray, List.getElem?_cons_zero, List.getElem?_cons_succ]; exact rfl
           · exact rfl
           first
           | (refine quiet_load_val _ rfl w.heap.size 0 [.int .i64 k1, .int .u8 z1, .slice a1 len1 cap1] rfl (fun w' ⟨L, hL⟩ => hL ▸ HXx.out _ (Hb6.out.trans ((et3 HB4.out L.ok).mono Hb6.out.size))) ?_; refine hJ _ ?_; clear hJ J; try simp only [Act.put, List.setIfInBounds_toArray, List.set_cons_zero, List.set_cons_succ])
           | (refine quiet_load_val _ rfl (w.heap.size + 1) 0 [.int .i64 k2, .int .u8 z2, .slice a2 len2 cap2] rfl (fun w' ⟨L, hL⟩ => hL ▸ HXy.out _ (Hb6.out.trans ((et3 HB4.out L.ok).mono Hb6.out.size))) ?_; refine hJ _ ?_; clear hJ J; try simp only [Act.put, List.setIfInBounds_toArray, List.set_cons_zero, List.set_cons_succ])
           | (refine quiet_load_val _ rfl (w.heap.size + 2) 0 [.int .i64 k3, .int .u8 z3, .slice a3 len3 cap3] rfl (fun w' ⟨L, hL⟩ => hL ▸ HXz.out _ (Hb6.out.trans ((et3 HB4.out L.ok).mono Hb6.out.size))) ?_; refine hJ _ ?_; clear hJ J; try simp only [Act.put, List.setIfInBounds_toArray, List.set_cons_zero, List.set_cons_succ])
           | (refine quiet_load_val _ rfl (W6.heap.size + 2) 0 [.int .i64 3, .int .u8 0, .slice (some ⟨W6.heap.size, 0, none⟩) 2 2] rfl (fun w' ⟨L, hL⟩ => hL ▸ HV1.out.below Hbk.out (et3 HB4.out L.ok)) ?_; refine hJ _ ?_; clear hJ J; try simp only [Act.put, List.setIfInBounds_toArray, List.set_cons_zero, List.set_cons_succ])
           | (refine quiet_load_val _ rfl (W6.heap.size + 2) 3 [.int .i64 3, .int .u8 0, .slice (some ⟨W6.heap.size + 1, 0, none⟩) 2 2] rfl (fun w' ⟨L, hL⟩ => hL ▸ HV2.out.below Hbk.out (et3 HB4.out L.ok)) ?_; refine hJ _ ?_; clear hJ J; try simp only [Act.put, List.setIfInBounds_toArray, List.set_cons_zero, List.set_cons_succ])
           | (refine quiet_extract _ _ rfl _ _ rfl rfl ?_; refine hJ _ ?_; clear hJ J; try simp only [Act.put, List.setIfInBounds_toArray, List.set_cons_zero, List.set_cons_succ])
           | (go_big_quiet_op; refine hJ _ ?_; clear hJ J; try simp only [Act.put, List.setIfInBounds_toArray, List.set_cons_zero, List.set_cons_succ])))
    refine hold_done ?_
    have HF := Lib.hid (Hb6.out.trans ((et3 HB4.out hK34).mono Hb6.out.size))
    go_wp2_with fail
    go_ret
    exact ⟨rfl, HbW.out.trans (HF.out.mono HbW.out.size)⟩
end V
end Go.Proofs.Ytblgjcolmaidlaa
