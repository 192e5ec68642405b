/- The law ValueTexts, walked: any core, any two values of at most so many parts. -/
import Derived.Test.YtddbheoncbphhaaValInj
import Derived.Test.YtddbheoncbphhaaValAwake
import Derived.Test.YtddbheoncbphhaaValWide
import Derived.Test.YtddbheoncbphhaaValOps
import Derived.Test.YtddbheoncbphhaaCoreBig
namespace Go.Proofs.Ytddbheoncbphhaa
namespace V
set_option maxRecDepth 100000
open Go.RowKit
def vtF (_B0 : Nat) (v u : Vl) (t1 t2 : ByteArray) (b : Bool) : List Fact := [
  isVal v,
  isEq (.string t1),
  isVal u,
  isEq (.string t2),
  isEq (.bool b),
  isVal v,
  isVal u,
  isEq (.bool b),
  isEq (.bool true),
  isEq (.bool true),
  isVal v,
  isEq (.int .i64 (v.flat.length : Int)),
  isVal v,
  isBytes v.flat,
  isEq (.int .i64 (v.flat.length : Int)),
  isEq (.bool true),
  isEq (.bool true),
  isEq (.bool true)]
theorem vtF_stable (B0 : Nat) (v u : Vl) (t1 t2 : ByteArray) (b : Bool) : AllG (fun _ P => Stable P) 0 (vtF B0 v u t1 t2 b) := by
  unfold vtF
  refine AllG.cons (k' := 1) rfl (isVal.stable _) ?_
  refine AllG.cons (k' := 2) rfl (isEq.stable _) ?_
  refine AllG.cons (k' := 3) rfl (isVal.stable _) ?_
  refine AllG.cons (k' := 4) rfl (isEq.stable _) ?_
  refine AllG.cons (k' := 5) rfl (isEq.stable _) ?_
  refine AllG.cons (k' := 6) rfl (isVal.stable _) ?_
  refine AllG.cons (k' := 7) rfl (isVal.stable _) ?_
  refine AllG.cons (k' := 8) rfl (isEq.stable _) ?_
  refine AllG.cons (k' := 9) rfl (isEq.stable _) ?_
  refine AllG.cons (k' := 10) rfl (isEq.stable _) ?_
  refine AllG.cons (k' := 11) rfl (isVal.stable _) ?_
  refine AllG.cons (k' := 12) rfl (isEq.stable _) ?_
  refine AllG.cons (k' := 13) rfl (isVal.stable _) ?_
  refine AllG.cons (k' := 14) rfl (isBytes.stable _) ?_
  refine AllG.cons (k' := 15) rfl (isEq.stable _) ?_
  refine AllG.cons (k' := 16) rfl (isEq.stable _) ?_
  refine AllG.cons (k' := 17) rfl (isEq.stable _) ?_
  refine AllG.cons (k' := 18) rfl (isEq.stable _) ?_
  exact AllG.nil

theorem text_s {v : Vl} {ds : List Value} {w : World} {t : ByteArray} (hv : Vl.at w v ds) (ht : nats t = v.txt) (hb : v.count ≤ 1048576) :
    Calls Try.prog 18 #[.agg ds.toArray] w fun e w' => e = .returned (.string t) ∧ Below w.heap.size w w' := by
  refine (text_walk hv (by have := txt_le v; unfold most; omega)).mono ?_
  rintro e w3 ⟨⟨t', rfl, ht'⟩, hb⟩
  exact ⟨by rw [of_nats (ht'.trans ht.symm)], hb⟩
theorem len_s {v : Vl} {ds : List Value} {w : World} (hv : Vl.at w v ds) (hb : v.count ≤ 1048576) :
    Calls Try.prog 19 #[.agg ds.toArray] w fun e w' => e = .returned (.int .i64 v.flat.length) ∧ Below w.heap.size w w' := by
  refine (len_any v ds w hv).mono ?_
  rintro e w3 ⟨rfl, hb⟩
  exact ⟨by rw [len_flat (by omega)], hb⟩
theorem flat_s {v : Vl} {ds : List Value} {w : World} (hv : Vl.at w v ds) (hb : v.count ≤ 1048576) :
    Calls Try.prog 21 #[.agg ds.toArray] w fun e w' => ∃ p c, e = .returned (.slice p v.flat.length c) ∧ BytesAt w' p v.flat.length c v.flat ∧ Below w.heap.size w w' := by
  have hlt := flat_lt v (at_okB v ds hv)
  refine (flat_any v ds w hv (by have := flat_le v; omega)).mono ?_
  rintro e w' ⟨v', ys, rfl, hys, ho, hb⟩
  have hys := hys.out
  subst hys
  obtain ⟨a, c, rfl⟩ := owns_form ho
  exact ⟨a, c, rfl, bytesAt_of_owns ho hlt (Below.refl _ _), hb⟩
set_option maxHeartbeats 16000000 in
theorem valueTexts_walk (x : K.Cr) (cs : List Value) (v : Vl) (ds : List Value) (u : Vl) (es : List Value) (w : World) (hc : K.Cr.at w x cs) (hv : Vl.at w v ds) (hu : Vl.at w u es) (hsv : v.count ≤ 1048576) (hsu : u.count ≤ 1048576) :
    Calls Try.prog 5 #[.agg cs.toArray, .agg ds.toArray, .agg es.toArray] w fun e w' => e = .returned (.bool true) ∧ Below w.heap.size w w' := by
  obtain ⟨W, hW⟩ : ∃ W, W = ((w.alloc (.cells cs.toArray 31)).alloc (.cells ds.toArray 25)).alloc (.cells es.toArray 25) := ⟨_, rfl⟩
  have hbW : Below w.heap.size w W := by rw [hW]; exact ((((Below.refl _ _).alloc (Nat.le_refl _) _).alloc (by simp) _).alloc (by simp; omega) _)
  have hsW : W.heap.size = w.heap.size + 3 := by rw [hW]; simp
  have hxx : K.Core7 W w.heap.size 0 cs := by
    have h := World.alloc_heap_new w (.cells cs.toArray 31)
    rw [hW]
    exact core7_below (K.core7_in h (K.at_len hc)) (B := w.heap.size + 1) (by omega) (((Below.refl _ _).alloc (by first | (simp; done) | (simp; omega)) _).alloc (by first | (simp; done) | (simp; omega)) _)
  have hxv : Val3 W (w.heap.size + 1) 0 ds := by
    have h := World.alloc_heap_new (w.alloc (.cells cs.toArray 31)) (.cells ds.toArray 25)
    rw [World.size_alloc] at h
    rw [hW]
    exact Val3.below (val3_in h (at_len hv)) (B := w.heap.size + 2) (by omega) ((Below.refl _ _).alloc (by first | (simp; done) | (simp; omega)) _)
  have hxu : Val3 W (w.heap.size + 2) 0 es := by
    have h := World.alloc_heap_new ((w.alloc (.cells cs.toArray 31)).alloc (.cells ds.toArray 25)) (.cells es.toArray 25)
    rw [World.size_alloc, World.size_alloc] at h
    rw [hW]
    exact (val3_in h (at_len hu))
  have HXx : Hid (∀ w', Below W.heap.size W w' → K.Core7 w' w.heap.size 0 cs) := Lib.hid fun w' h => core7_below hxx (by omega) h
  have HAx : Hid (∀ w', Below W.heap.size W w' → K.Cr.at w' x cs) := Lib.hid fun w' h => K.Cr.at_below (hbW.trans (h.mono hbW.size)) (Nat.le_refl _) _ _ hc
  have HXv : Hid (∀ w', Below W.heap.size W w' → Val3 w' (w.heap.size + 1) 0 ds) := Lib.hid fun w' h => Val3.below hxv (by omega) h
  have HAv : Hid (∀ w', Below W.heap.size W w' → Vl.at w' v ds) := Lib.hid fun w' h => Vl.at_below (hbW.trans (h.mono hbW.size)) (Nat.le_refl _) _ _ hv
  have HXu : Hid (∀ w', Below W.heap.size W w' → Val3 w' (w.heap.size + 2) 0 es) := Lib.hid fun w' h => Val3.below hxu (by omega) h
  have HAu : Hid (∀ w', Below W.heap.size W w' → Vl.at w' u es) := Lib.hid fun w' h => Vl.at_below (hbW.trans (h.mono hbW.size)) (Nat.le_refl _) _ _ hu
  have HbW := Lib.hid hbW
  have HsW := Lib.hid hsW
  clear hbW hsW hxx hxv hxu
  have Haw : Hid (∀ w', Below W.heap.size W w' → Calls Try.prog 8 #[] w' fun e w' => e = .returned (.bool true) ∧ Below W.heap.size W w') := Lib.hid fun w' h => by
    refine (awake_any w').mono ?_
    rintro e w3 ⟨rfl, hb⟩
    exact ⟨rfl, h.trans (hb.mono h.size)⟩
  have Hbig : Hid (∀ w', Below W.heap.size W w' → Calls Try.prog 23 #[.agg cs.toArray, .int .i64 100] w' fun e w' => e = .returned (.bool (K.bigN 100 x)) ∧ Below W.heap.size W w') := Lib.hid fun w' h => by
    refine (K.big_any 100 x cs w' (by decide) (HAx.out w' h)).mono ?_
    rintro e w3 ⟨rfl, hb⟩
    exact ⟨rfl, h.trans (hb.mono h.size)⟩
  have Hwdv : Hid (∀ w', Below W.heap.size W w' → Calls Try.prog 24 #[.agg ds.toArray, .int .i64 40] w' fun e w' => e = .returned (.bool (wideN 40 v)) ∧ Below W.heap.size W w') := Lib.hid fun w' h => by
    refine (wide_any 40 v ds w' (by decide) (HAv.out w' h)).mono ?_
    rintro e w3 ⟨rfl, hb⟩
    exact ⟨rfl, h.trans (hb.mono h.size)⟩
  have Hwdu : Hid (∀ w', Below W.heap.size W w' → Calls Try.prog 24 #[.agg es.toArray, .int .i64 40] w' fun e w' => e = .returned (.bool (wideN 40 u)) ∧ Below W.heap.size W w') := Lib.hid fun w' h => by
    refine (wide_any 40 u es w' (by decide) (HAu.out w' h)).mono ?_
    rintro e w3 ⟨rfl, hb⟩
    exact ⟨rfl, h.trans (hb.mono h.size)⟩
  have Hgdv : Hid (∀ w', Below W.heap.size W w' → Calls Try.prog 13 #[.agg cs.toArray, .agg ds.toArray] w' fun e w' => e = .returned (.bool (goodV x v)) ∧ Below W.heap.size W w') := Lib.hid fun w' h => by
    refine (good_any (HAx.out w' h) (HAv.out w' h)).mono ?_
    rintro e w3 ⟨rfl, hb⟩
    exact ⟨rfl, h.trans (hb.mono h.size)⟩
  have Hgdu : Hid (∀ w', Below W.heap.size W w' → Calls Try.prog 13 #[.agg cs.toArray, .agg es.toArray] w' fun e w' => e = .returned (.bool (goodV x u)) ∧ Below W.heap.size W w') := Lib.hid fun w' h => by
    refine (good_any (HAx.out w' h) (HAu.out w' h)).mono ?_
    rintro e w3 ⟨rfl, hb⟩
    exact ⟨rfl, h.trans (hb.mono h.size)⟩
  have Hsame : goodV x v = true → goodV x u = true → decide (v.txt = u.txt) = v.same u := fun h1 h2 => by
    unfold goodV at h1 h2
    rw [Bool.and_eq_true] at h1 h2
    exact txt_same h1.2 h2.2
  have HSame := Lib.hid Hsame
  have Hsv := Lib.hid hsv
  have Hsu := Lib.hid hsu
  obtain ⟨k1, s1, n1, a1, len1, cap1, rfl⟩ := K.at_lit hc
  obtain ⟨k2, z2, a2, len2, cap2, rfl⟩ := at_lit hv
  obtain ⟨k3, z3, a3, len3, cap3, rfl⟩ := at_lit hu
  clear hc hv hu hsv hsu Hsame
  cases B0 : K.bigN 100 x with
  | true =>
    rw [B0] at Hbig
    go_enter Try.func5, Try.ntmps5
    go_upto_region 1 with fail
    rw [← hW]
    clear hW
    go_wp2_with (first
      | (go_at_call 8; refine (Haw.out _ (Below.refl _ _)).mono ?_; rintro e W1 ⟨rfl, hb1⟩; have q0x := HXx.out _ hb1; have call0 := Hbig.out _ hb1; clear hb1)
      | (refine K.wpList_load_core rfl _ rfl w.heap.size 0 _ rfl q0x ?_)
      | (go_at_call 23; refine call0.mono ?_; clear call0; rintro e W2 ⟨rfl, hb2⟩; clear q0x; have Hb2 := Lib.hid hb2; clear hb2)
      | fail)
    go_ret
    exact ⟨rfl, HbW.out.trans (Hb2.out.mono HbW.out.size)⟩
  | false =>
  rw [B0] at Hbig
  cases B1 : wideN 40 v with
  | true =>
    rw [B1] at Hwdv
    go_enter Try.func5, Try.ntmps5
    go_upto_region 1 with fail
    rw [← hW]
    clear hW
    go_wp2_with (first
      | (go_at_call 8; refine (Haw.out _ (Below.refl _ _)).mono ?_; rintro e W1 ⟨rfl, hb1⟩; have q0x := HXx.out _ hb1; have call0 := Hbig.out _ hb1; clear hb1)
      | (refine K.wpList_load_core rfl _ rfl w.heap.size 0 _ rfl q0x ?_)
      | (go_at_call 23; refine call0.mono ?_; clear call0; rintro e W2 ⟨rfl, hb2⟩; clear q0x; have q1v := HXv.out _ hb2; have call1 := Hwdv.out _ hb2; clear hb2)
      | (refine wpList_load_val_want rfl _ rfl (w.heap.size + 1) 0 _ rfl q1v ?_)
      | (go_at_call 24; refine call1.mono ?_; clear call1; rintro e W3 ⟨rfl, hb3⟩; clear q1v; have Hb3 := Lib.hid hb3; clear hb3)
      | fail)
    go_ret
    exact ⟨rfl, HbW.out.trans (Hb3.out.mono HbW.out.size)⟩
  | false =>
  rw [B1] at Hwdv
  cases B2 : wideN 40 u with
  | true =>
    rw [B2] at Hwdu
    go_enter Try.func5, Try.ntmps5
    go_upto_region 1 with fail
    rw [← hW]
    clear hW
    go_wp2_with (first
      | (go_at_call 8; refine (Haw.out _ (Below.refl _ _)).mono ?_; rintro e W1 ⟨rfl, hb1⟩; have q0x := HXx.out _ hb1; have call0 := Hbig.out _ hb1; clear hb1)
      | (refine K.wpList_load_core rfl _ rfl w.heap.size 0 _ rfl q0x ?_)
      | (go_at_call 23; refine call0.mono ?_; clear call0; rintro e W2 ⟨rfl, hb2⟩; clear q0x; have q1v := HXv.out _ hb2; have call1 := Hwdv.out _ hb2; clear hb2)
      | (refine wpList_load_val_want rfl _ rfl (w.heap.size + 1) 0 _ rfl q1v ?_)
      | (go_at_call 24; refine call1.mono ?_; clear call1; rintro e W3 ⟨rfl, hb3⟩; clear q1v; have q2u := HXu.out _ hb3; have call2 := Hwdu.out _ hb3; clear hb3)
      | (refine wpList_load_val_want rfl _ rfl (w.heap.size + 2) 0 _ rfl q2u ?_)
      | (go_at_call 24; refine call2.mono ?_; clear call2; rintro e W4 ⟨rfl, hb4⟩; clear q2u; have Hb4 := Lib.hid hb4; clear hb4)
      | fail)
    go_ret
    exact ⟨rfl, HbW.out.trans (Hb4.out.mono HbW.out.size)⟩
  | false =>
  rw [B2] at Hwdu
  cases B3 : goodV x v with
  | false =>
    rw [B3] at Hgdv
    go_enter Try.func5, Try.ntmps5
    go_upto_region 1 with fail
    rw [← hW]
    clear hW
    go_wp2_with (first
      | (go_at_call 8; refine (Haw.out _ (Below.refl _ _)).mono ?_; rintro e W1 ⟨rfl, hb1⟩; have q0x := HXx.out _ hb1; have call0 := Hbig.out _ hb1; clear hb1)
      | (refine K.wpList_load_core rfl _ rfl w.heap.size 0 _ rfl q0x ?_)
      | (go_at_call 23; refine call0.mono ?_; clear call0; rintro e W2 ⟨rfl, hb2⟩; clear q0x; have q1v := HXv.out _ hb2; have call1 := Hwdv.out _ hb2; clear hb2)
      | (refine wpList_load_val_want rfl _ rfl (w.heap.size + 1) 0 _ rfl q1v ?_)
      | (go_at_call 24; refine call1.mono ?_; clear call1; rintro e W3 ⟨rfl, hb3⟩; clear q1v; have q2u := HXu.out _ hb3; have call2 := Hwdu.out _ hb3; clear hb3)
      | (refine wpList_load_val_want rfl _ rfl (w.heap.size + 2) 0 _ rfl q2u ?_)
      | (go_at_call 24; refine call2.mono ?_; clear call2; rintro e W4 ⟨rfl, hb4⟩; clear q2u; have q3x := HXx.out _ hb4; have q3v := HXv.out _ hb4; have call3 := Hgdv.out _ hb4; clear hb4)
      | (refine K.wpList_load_node_want rfl _ rfl w.heap.size 0 _ rfl q3x ?_)
      | (refine wpList_load_val_want rfl _ rfl (w.heap.size + 1) 0 _ rfl q3v ?_)
      | (go_at_call 13; refine call3.mono ?_; clear call3; rintro e W5 ⟨rfl, hb5⟩; clear q3x q3v; have Hb5 := Lib.hid hb5; clear hb5)
      | fail)
    go_ret
    exact ⟨rfl, HbW.out.trans (Hb5.out.mono HbW.out.size)⟩
  | true =>
  rw [B3] at Hgdv
  cases B4 : goodV x u with
  | false =>
    rw [B4] at Hgdu
    go_enter Try.func5, Try.ntmps5
    go_upto_region 1 with fail
    rw [← hW]
    clear hW
    go_wp2_with (first
      | (go_at_call 8; refine (Haw.out _ (Below.refl _ _)).mono ?_; rintro e W1 ⟨rfl, hb1⟩; have q0x := HXx.out _ hb1; have call0 := Hbig.out _ hb1; clear hb1)
      | (refine K.wpList_load_core rfl _ rfl w.heap.size 0 _ rfl q0x ?_)
      | (go_at_call 23; refine call0.mono ?_; clear call0; rintro e W2 ⟨rfl, hb2⟩; clear q0x; have q1v := HXv.out _ hb2; have call1 := Hwdv.out _ hb2; clear hb2)
      | (refine wpList_load_val_want rfl _ rfl (w.heap.size + 1) 0 _ rfl q1v ?_)
      | (go_at_call 24; refine call1.mono ?_; clear call1; rintro e W3 ⟨rfl, hb3⟩; clear q1v; have q2u := HXu.out _ hb3; have call2 := Hwdu.out _ hb3; clear hb3)
      | (refine wpList_load_val_want rfl _ rfl (w.heap.size + 2) 0 _ rfl q2u ?_)
      | (go_at_call 24; refine call2.mono ?_; clear call2; rintro e W4 ⟨rfl, hb4⟩; clear q2u; have q3x := HXx.out _ hb4; have q3v := HXv.out _ hb4; have call3 := Hgdv.out _ hb4; clear hb4)
      | (refine K.wpList_load_node_want rfl _ rfl w.heap.size 0 _ rfl q3x ?_)
      | (refine wpList_load_val_want rfl _ rfl (w.heap.size + 1) 0 _ rfl q3v ?_)
      | (go_at_call 13; refine call3.mono ?_; clear call3; rintro e W5 ⟨rfl, hb5⟩; clear q3x q3v; have q4x := HXx.out _ hb5; have q4u := HXu.out _ hb5; have call4 := Hgdu.out _ hb5; clear hb5)
      | (refine K.wpList_load_node_want rfl _ rfl w.heap.size 0 _ rfl q4x ?_)
      | (refine wpList_load_val_want rfl _ rfl (w.heap.size + 2) 0 _ rfl q4u ?_)
      | (go_at_call 13; refine call4.mono ?_; clear call4; rintro e W6 ⟨rfl, hb6⟩; clear q4x q4u; have Hb6 := Lib.hid hb6; clear hb6)
      | fail)
    go_ret
    exact ⟨rfl, HbW.out.trans (Hb6.out.mono HbW.out.size)⟩
  | true =>
  rw [B4] at Hgdu
  have hsm := HSame.out B3 B4
  clear HSame B0 B1 B2 B3 B4
  go_enter Try.func5, Try.ntmps5
  go_upto_region 1 with fail
  rw [← hW]
  clear hW
  go_wp2_with (first
    | (go_at_call 8; refine (Haw.out _ (Below.refl _ _)).mono ?_; rintro e W1 ⟨rfl, hb1⟩; have q0x := HXx.out _ hb1; have call0 := Hbig.out _ hb1; clear hb1)
    | (refine K.wpList_load_core rfl _ rfl w.heap.size 0 _ rfl q0x ?_)
    | (go_at_call 23; refine call0.mono ?_; clear call0; rintro e W2 ⟨rfl, hb2⟩; clear q0x; have q1v := HXv.out _ hb2; have call1 := Hwdv.out _ hb2; clear hb2)
    | (refine wpList_load_val_want rfl _ rfl (w.heap.size + 1) 0 _ rfl q1v ?_)
    | (go_at_call 24; refine call1.mono ?_; clear call1; rintro e W3 ⟨rfl, hb3⟩; clear q1v; have q2u := HXu.out _ hb3; have call2 := Hwdu.out _ hb3; clear hb3)
    | (refine wpList_load_val_want rfl _ rfl (w.heap.size + 2) 0 _ rfl q2u ?_)
    | (go_at_call 24; refine call2.mono ?_; clear call2; rintro e W4 ⟨rfl, hb4⟩; clear q2u; have q3x := HXx.out _ hb4; have q3v := HXv.out _ hb4; have call3 := Hgdv.out _ hb4; clear hb4)
    | (refine K.wpList_load_node_want rfl _ rfl w.heap.size 0 _ rfl q3x ?_)
    | (refine wpList_load_val_want rfl _ rfl (w.heap.size + 1) 0 _ rfl q3v ?_)
    | (go_at_call 13; refine call3.mono ?_; clear call3; rintro e W5 ⟨rfl, hb5⟩; clear q3x q3v; have q4x := HXx.out _ hb5; have q4u := HXu.out _ hb5; have call4 := Hgdu.out _ hb5; clear hb5)
    | (refine K.wpList_load_node_want rfl _ rfl w.heap.size 0 _ rfl q4x ?_)
    | (refine wpList_load_val_want rfl _ rfl (w.heap.size + 2) 0 _ rfl q4u ?_)
    | (go_at_call 13; refine call4.mono ?_; clear call4; rintro e W6 ⟨rfl, hb6⟩; clear q4x q4u; have Hb6 := Lib.hid hb6; clear hb6)
    | fail)
  obtain ⟨t1, ht1⟩ : ∃ t1 : ByteArray, nats t1 = v.txt := ⟨⟨(toBytes v.txt).toArray⟩, nats_bytes (txt_lt v (at_okB v _ (HAv.out W (Below.refl _ _))))⟩
  obtain ⟨t2, ht2⟩ : ∃ t2 : ByteArray, nats t2 = u.txt := ⟨⟨(toBytes u.txt).toArray⟩, nats_bytes (txt_lt u (at_okB u _ (HAu.out W (Below.refl _ _))))⟩
  obtain ⟨b, hb⟩ : ∃ b, v.same u = b := ⟨_, rfl⟩
  have Heq := Lib.hid (show (t1.toList == t2.toList) = b from by rw [eq_list, ht1, ht2, hsm, hb])
  have Ht1 := Lib.hid ht1
  have Ht2 := Lib.hid ht2
  have Hbs := Lib.hid hb
  have BX4 := Lib.hid (fun (w' : World) (h : Below W6.heap.size W6 w') => And.intro (HXv.out _ (Hb6.out.trans (h.mono Hb6.out.size))) (HAv.out _ (Hb6.out.trans (h.mono Hb6.out.size))))
  have BX5 := Lib.hid (fun (w' : World) (h : Below W6.heap.size W6 w') => And.intro (HXu.out _ (Hb6.out.trans (h.mono Hb6.out.size))) (HAu.out _ (Hb6.out.trans (h.mono Hb6.out.size))))
  have HB := Lib.hid (HbW.out.trans (Hb6.out.mono HbW.out.size))
  clear hsm ht1 ht2 hb
  go_cut [6] from 31 to 47 (fun v wx => v = .bool true ∧ Below W6.heap.size W6 wx)
  case first =>
   rename_i J K' hR hMet
   refine wp_region_guards (factAt (vtF W6.heap.size v u t1 t2 b)) (W0 := W6) (by kernel_rfl) (by kernel_rfl) (by kernel_rfl) (Below.refl _ _) (fun i v w w' h hk => factAt_stable (vtF_stable _ _ _ _ _ _) i v w w' h hk) [9] (by kernel_rfl) ?hgu ?hop ?hend
   case hgu =>
     intro j hj v w h
     simp only [List.mem_cons, List.not_mem_nil, or_false] at hj
     rcases hj with rfl
     · exact fact_get (P := isEq (.bool true)) rfl h
   case hop =>
     refine AllG.get0 ?_
     refine AllG.cons (k' := 1) rfl ?_ ?_
     · intro a' w' hB hk hin KK hK
       refine wp_load_valK _ rfl (w.heap.size + 1) 0 _ (eval_tmp (by rw [hk 4 (by kernel_rfl)]; rfl)) (BX4.out _ hB).1 ?_
       exact hK _ _ hB (KeepsC.of_below (Below.refl _ _)) (fact_put (P := isVal v) rfl ⟨_, rfl, (BX4.out _ hB).2⟩)
     refine AllG.cons (k' := 2) rfl ?_ ?_
     · intro a' w' hB hk hin KK hK
       obtain ⟨v1, e1, q1⟩ := hin 0 _ 31 rfl rfl ⟨{ on := 0, ground := .data }, by simp, rfl, rfl⟩
       have q1 := fact_get (P := isVal v) rfl q1
       obtain ⟨zs1, r1, hat1⟩ := q1
       subst r1
       unfold Oper.wp execOp
       go_simp
       refine (text_s hat1 Ht1.out Hsv.out).mono ?_
       rintro e wn ⟨rfl, hbn⟩
       exact hK _ _ (hB.trans (hbn.mono hB.size)) (KeepsC.of_below hbn) (fact_put (P := isEq (.string t1)) rfl rfl)
     refine AllG.cons (k' := 3) rfl ?_ ?_
     · intro a' w' hB hk hin KK hK
       refine wp_load_valK _ rfl (w.heap.size + 2) 0 _ (eval_tmp (by rw [hk 5 (by kernel_rfl)]; rfl)) (BX5.out _ hB).1 ?_
       exact hK _ _ hB (KeepsC.of_below (Below.refl _ _)) (fact_put (P := isVal u) rfl ⟨_, rfl, (BX5.out _ hB).2⟩)
     refine AllG.cons (k' := 4) rfl ?_ ?_
     · intro a' w' hB hk hin KK hK
       obtain ⟨v2, e2, q2⟩ := hin 2 _ 33 rfl rfl ⟨{ on := 2, ground := .data }, by simp, rfl, rfl⟩
       have q2 := fact_get (P := isVal u) rfl q2
       obtain ⟨zs2, r2, hat2⟩ := q2
       subst r2
       unfold Oper.wp execOp
       go_simp
       refine (text_s hat2 Ht2.out Hsu.out).mono ?_
       rintro e wn ⟨rfl, hbn⟩
       exact hK _ _ (hB.trans (hbn.mono hB.size)) (KeepsC.of_below hbn) (fact_put (P := isEq (.string t2)) rfl rfl)
     refine AllG.cons (k' := 5) rfl ?_ ?_
     · intro a' w' hB hk hin KK hK
       obtain ⟨v3, e3, q3⟩ := hin 1 _ 32 rfl rfl ⟨{ on := 1, ground := .data }, by simp, rfl, rfl⟩
       have q3 := fact_get (P := isEq (.string t1)) rfl q3
       have q3' : v3 = .string t1 := q3
       subst q3'
       obtain ⟨v4, e4, q4⟩ := hin 3 _ 34 rfl rfl ⟨{ on := 3, ground := .data }, by simp, rfl, rfl⟩
       have q4 := fact_get (P := isEq (.string t2)) rfl q4
       have q4' : v4 = .string t2 := q4
       subst q4'
       unfold Oper.wp execOp
       go_simp
       exact hK _ _ hB (KeepsC.of_below (Below.refl _ _)) (fact_put (P := isEq (.bool b)) rfl (by show Value.bool _ = Value.bool _; rw [Heq.out]))
     refine AllG.cons (k' := 6) rfl ?_ ?_
     · intro a' w' hB hk hin KK hK
       refine wp_load_valK _ rfl (w.heap.size + 1) 0 _ (eval_tmp (by rw [hk 4 (by kernel_rfl)]; rfl)) (BX4.out _ hB).1 ?_
       exact hK _ _ hB (KeepsC.of_below (Below.refl _ _)) (fact_put (P := isVal v) rfl ⟨_, rfl, (BX4.out _ hB).2⟩)
     refine AllG.cons (k' := 7) rfl ?_ ?_
     · intro a' w' hB hk hin KK hK
       refine wp_load_valK _ rfl (w.heap.size + 2) 0 _ (eval_tmp (by rw [hk 5 (by kernel_rfl)]; rfl)) (BX5.out _ hB).1 ?_
       exact hK _ _ hB (KeepsC.of_below (Below.refl _ _)) (fact_put (P := isVal u) rfl ⟨_, rfl, (BX5.out _ hB).2⟩)
     refine AllG.cons (k' := 8) rfl ?_ ?_
     · intro a' w' hB hk hin KK hK
       obtain ⟨v5, e5, q5⟩ := hin 5 _ 36 rfl rfl ⟨{ on := 5, ground := .data }, by simp, rfl, rfl⟩
       have q5 := fact_get (P := isVal v) rfl q5
       obtain ⟨zs5, r5, hat5⟩ := q5
       subst r5
       obtain ⟨v6, e6, q6⟩ := hin 6 _ 37 rfl rfl ⟨{ on := 6, ground := .data }, by simp, rfl, rfl⟩
       have q6 := fact_get (P := isVal u) rfl q6
       obtain ⟨zs6, r6, hat6⟩ := q6
       subst r6
       unfold Oper.wp execOp
       go_simp
       refine (same_eq hat5 hat6 Hbs.out).mono ?_
       rintro e wn ⟨rfl, hbn⟩
       exact hK _ _ (hB.trans (hbn.mono hB.size)) (KeepsC.of_below hbn) (fact_put (P := isEq (.bool b)) rfl rfl)
     refine AllG.cons (k' := 9) rfl ?_ ?_
     · intro a' w' hB hk hin KK hK
       obtain ⟨v7, e7, q7⟩ := hin 4 _ 35 rfl rfl ⟨{ on := 4, ground := .data }, by simp, rfl, rfl⟩
       have q7 := fact_get (P := isEq (.bool b)) rfl q7
       have q7' : v7 = .bool b := q7
       subst q7'
       obtain ⟨v8, e8, q8⟩ := hin 7 _ 38 rfl rfl ⟨{ on := 7, ground := .data }, by simp, rfl, rfl⟩
       have q8 := fact_get (P := isEq (.bool b)) rfl q8
       have q8' : v8 = .bool b := q8
       subst q8'
       unfold Oper.wp execOp
       go_simp
       exact hK _ _ hB (KeepsC.of_below (Below.refl _ _)) (fact_put (P := isEq (.bool true)) rfl (by show Value.bool _ = Value.bool _; simp))
     refine AllG.cons (k' := 10) rfl ?_ ?_
     · intro a' w' hB hk hin KK hK
       obtain ⟨v9, e9, q9⟩ := hin 8 _ 39 rfl rfl ⟨{ on := 8, ground := .data }, by simp, rfl, rfl⟩
       have q9 := fact_get (P := isEq (.bool true)) rfl q9
       have q9' : v9 = .bool true := q9
       subst q9'
       unfold Oper.wp execOp
       go_simp
       exact hK _ _ hB (KeepsC.of_below (Below.refl _ _)) (fact_put (P := isEq (.bool true)) rfl rfl)
     refine AllG.cons (k' := 11) rfl ?_ ?_
     · intro a' w' hB hk hin KK hK
       refine wp_load_valK _ rfl (w.heap.size + 1) 0 _ (eval_tmp (by rw [hk 4 (by kernel_rfl)]; rfl)) (BX4.out _ hB).1 ?_
       exact hK _ _ hB (KeepsC.of_below (Below.refl _ _)) (fact_put (P := isVal v) rfl ⟨_, rfl, (BX4.out _ hB).2⟩)
     refine AllG.cons (k' := 12) rfl ?_ ?_
     · intro a' w' hB hk hin KK hK
       obtain ⟨v10, e10, q10⟩ := hin 10 _ 41 rfl rfl ⟨{ on := 10, ground := .data }, by simp, rfl, rfl⟩
       have q10 := fact_get (P := isVal v) rfl q10
       obtain ⟨zs10, r10, hat10⟩ := q10
       subst r10
       unfold Oper.wp execOp
       go_simp
       refine (len_s hat10 Hsv.out).mono ?_
       rintro e wn ⟨rfl, hbn⟩
       exact hK _ _ (hB.trans (hbn.mono hB.size)) (KeepsC.of_below hbn) (fact_put (P := isEq (.int .i64 (v.flat.length : Int))) rfl rfl)
     refine AllG.cons (k' := 13) rfl ?_ ?_
     · intro a' w' hB hk hin KK hK
       refine wp_load_valK _ rfl (w.heap.size + 1) 0 _ (eval_tmp (by rw [hk 4 (by kernel_rfl)]; rfl)) (BX4.out _ hB).1 ?_
       exact hK _ _ hB (KeepsC.of_below (Below.refl _ _)) (fact_put (P := isVal v) rfl ⟨_, rfl, (BX4.out _ hB).2⟩)
     refine AllG.cons (k' := 14) rfl ?_ ?_
     · intro a' w' hB hk hin KK hK
       obtain ⟨v11, e11, q11⟩ := hin 12 _ 43 rfl rfl ⟨{ on := 12, ground := .data }, by simp, rfl, rfl⟩
       have q11 := fact_get (P := isVal v) rfl q11
       obtain ⟨zs11, r11, hat11⟩ := q11
       subst r11
       unfold Oper.wp execOp
       go_simp
       refine (flat_s hat11 Hsv.out).mono ?_
       rintro e wn ⟨p, c, rfl, hy, hbn⟩
       exact hK _ _ (hB.trans (hbn.mono hB.size)) (KeepsC.of_below hbn) (fact_put (P := isBytes v.flat) rfl ⟨p, c, rfl, hy⟩)
     refine AllG.cons (k' := 15) rfl ?_ ?_
     · intro a' w' hB hk hin KK hK
       obtain ⟨v12, e12, q12⟩ := hin 13 _ 44 rfl rfl ⟨{ on := 13, ground := .data }, by simp, rfl, rfl⟩
       have q12 := fact_get (P := isBytes v.flat) rfl q12
       obtain ⟨p12, c12, r12, hy12⟩ := q12
       subst r12
       unfold Oper.wp execOp
       go_simp
       exact hK _ _ hB (KeepsC.of_below (Below.refl _ _)) (fact_put (P := isEq (.int .i64 (v.flat.length : Int))) rfl rfl)
     refine AllG.cons (k' := 16) rfl ?_ ?_
     · intro a' w' hB hk hin KK hK
       obtain ⟨v13, e13, q13⟩ := hin 11 _ 42 rfl rfl ⟨{ on := 11, ground := .data }, by simp, rfl, rfl⟩
       have q13 := fact_get (P := isEq (.int .i64 (v.flat.length : Int))) rfl q13
       have q13' : v13 = .int .i64 (v.flat.length : Int) := q13
       subst q13'
       obtain ⟨v14, e14, q14⟩ := hin 14 _ 45 rfl rfl ⟨{ on := 14, ground := .data }, by simp, rfl, rfl⟩
       have q14 := fact_get (P := isEq (.int .i64 (v.flat.length : Int))) rfl q14
       have q14' : v14 = .int .i64 (v.flat.length : Int) := q14
       subst q14'
       unfold Oper.wp execOp
       go_simp
       exact hK _ _ hB (KeepsC.of_below (Below.refl _ _)) (fact_put (P := isEq (.bool true)) rfl (by show Value.bool _ = Value.bool _; simp))
     refine AllG.cons (k' := 17) rfl ?_ ?_
     · intro a' w' hB hk hin KK hK
       obtain ⟨v15, e15, q15⟩ := hin 9 _ 40 rfl rfl ⟨{ on := 9, ground := .data }, by simp, rfl, rfl⟩
       have q15 := fact_get (P := isEq (.bool true)) rfl q15
       have q15' : v15 = .bool true := q15
       subst q15'
       obtain ⟨v16, e16, q16⟩ := hin 15 _ 46 rfl rfl ⟨{ on := 15, ground := .data }, by simp, rfl, rfl⟩
       have q16 := fact_get (P := isEq (.bool true)) rfl q16
       have q16' : v16 = .bool true := q16
       subst q16'
       unfold Oper.wp execOp
       go_simp
       exact hK _ _ hB (KeepsC.of_below (Below.refl _ _)) (fact_put (P := isEq (.bool true)) rfl rfl)
     refine AllG.cons (k' := 18) rfl ?_ ?_
     · intro a' w' hB hk hin KK hK
       obtain ⟨v17, e17, q17⟩ := hin 16 _ 47 rfl rfl ⟨{ on := 16, ground := .data }, by simp, rfl, rfl⟩
       have q17 := fact_get (P := isEq (.bool true)) rfl q17
       have q17' : v17 = .bool true := q17
       subst q17'
       unfold Oper.wp execOp
       go_simp
       exact hK _ _ hB (KeepsC.of_below (Below.refl _ _)) (fact_put (P := isEq (.bool true)) rfl rfl)
     exact AllG.nil
   case hend =>
    intro a' w' hB hdef hsz hk hvals
    obtain ⟨v', hv', hvt⟩ := hvals 17 _ 6 rfl rfl
    have hvt' := fact_get (P := isEq (.bool true)) rfl hvt
    have hvt2 : v' = .bool true := hvt'
    subst hvt2
    have hf0 : a'.tmps.getD 6 undef = .bool true := by rw [Array.getD_eq_getD_getElem?, hv']; rfl
    have heq := act_eq hdef hsz hk
    refine hMet a' w' (Met.intro (hR a' w' ?_))
    refine ⟨a'.tmps.getD 6 undef, a'.tmps.getD 31 undef, a'.tmps.getD 32 undef, a'.tmps.getD 33 undef, a'.tmps.getD 34 undef, a'.tmps.getD 35 undef, a'.tmps.getD 36 undef, a'.tmps.getD 37 undef, a'.tmps.getD 38 undef, a'.tmps.getD 39 undef, a'.tmps.getD 40 undef, a'.tmps.getD 41 undef, a'.tmps.getD 42 undef, a'.tmps.getD 43 undef, a'.tmps.getD 44 undef, a'.tmps.getD 45 undef, a'.tmps.getD 46 undef, a'.tmps.getD 47 undef, ⟨hf0, hB⟩, heq.trans ?_⟩
    kernel_rfl
  case rest =>
   obtain ⟨rfl, hBc⟩ := hcut
   have Hfin := Lib.hid (HB.out.trans (hBc.mono HB.out.size))
   clear hBc
   go_wp2_with fail
   go_ret
   exact ⟨rfl, Hfin.out⟩

end V
end Go.Proofs.Ytddbheoncbphhaa
