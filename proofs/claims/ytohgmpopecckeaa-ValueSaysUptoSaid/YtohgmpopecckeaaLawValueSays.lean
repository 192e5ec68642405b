/- The law ValueSays, walked: any core, any two values of at most so many parts. -/
import Derived.Test.YtohgmpopecckeaaRefGoods
import Derived.Test.YtohgmpopecckeaaRefVals
import Derived.Test.YtohgmpopecckeaaHoldBoxes
import Derived.Test.YtohgmpopecckeaaValWS
import Derived.Test.YtohgmpopecckeaaValAwake
import Derived.Test.YtohgmpopecckeaaValOps
import Derived.Test.YtohgmpopecckeaaClosed
namespace Go.Proofs.Ytohgmpopecckeaa
namespace V
set_option maxRecDepth 100000
open Go.RowKit
def vsF (_B0 : Nat) (x : K.Cr) (v u : Vl) (rs zs : List Value) (tf t1 : ByteArray) (g f b : Bool) : List Fact := [
  isCore x,
  isVal v,
  isEq (.bool g),
  isEq (.agg rs.toArray),
  isEq (.agg zs.toArray),
  isEq (.bool g),
  isEq (.bool true),
  isEq (.bool true),
  isCore x,
  isVal v,
  isEq (.bool f),
  isEq (.agg rs.toArray),
  isEq (.agg zs.toArray),
  isEq (.bool f),
  isEq (.bool true),
  isEq (.bool true),
  isEq (.bool true),
  isVal v,
  isBytes v.flat,
  isEq (.string tf),
  isEq (.agg zs.toArray),
  isBytes v.flat,
  isEq (.string tf),
  isEq (.bool true),
  isEq (.bool true),
  isEq (.bool true),
  isVal v,
  isEq (.int .i64 (v.flat.length : Int)),
  isEq (.agg zs.toArray),
  isBytes v.flat,
  isEq (.int .i64 (v.flat.length : Int)),
  isEq (.bool true),
  isEq (.bool true),
  isEq (.bool true),
  isVal v,
  isEq (.string t1),
  isEq (.agg zs.toArray),
  isEq (.string t1),
  isEq (.bool true),
  isEq (.bool true),
  isEq (.bool true),
  isVal v,
  isEq (.int .i64 (v.size : Int)),
  isEq (.agg zs.toArray),
  isEq (.int .i64 (v.size : Int)),
  isEq (.bool true),
  isEq (.bool true),
  isEq (.bool true),
  isVal v,
  isVal u,
  isEq (.bool b),
  isEq (.agg zs.toArray),
  isVal u,
  isVal u,
  isEq (.bool b),
  isEq (.bool true),
  isEq (.bool true),
  isEq (.bool true)]
theorem vsF_stable (B0 : Nat) (x : K.Cr) (v u : Vl) (rs zs : List Value) (tf t1 : ByteArray) (g f b : Bool) : AllG (fun _ P => Stable P) 0 (vsF B0 x v u rs zs tf t1 g f b) := by
  unfold vsF
  refine AllG.cons (k' := 1) rfl (isCore.stable _) ?_
  refine AllG.cons (k' := 2) rfl (isVal.stable _) ?_
  refine AllG.cons (k' := 3) rfl (isEq.stable _) ?_
  refine AllG.cons (k' := 4) rfl (isEq.stable _) ?_
  refine AllG.cons (k' := 5) rfl (isEq.stable _) ?_
  refine AllG.cons (k' := 6) rfl (isEq.stable _) ?_
  refine AllG.cons (k' := 7) rfl (isEq.stable _) ?_
  refine AllG.cons (k' := 8) rfl (isEq.stable _) ?_
  refine AllG.cons (k' := 9) rfl (isCore.stable _) ?_
  refine AllG.cons (k' := 10) rfl (isVal.stable _) ?_
  refine AllG.cons (k' := 11) rfl (isEq.stable _) ?_
  refine AllG.cons (k' := 12) rfl (isEq.stable _) ?_
  refine AllG.cons (k' := 13) rfl (isEq.stable _) ?_
  refine AllG.cons (k' := 14) rfl (isEq.stable _) ?_
  refine AllG.cons (k' := 15) rfl (isEq.stable _) ?_
  refine AllG.cons (k' := 16) rfl (isEq.stable _) ?_
  refine AllG.cons (k' := 17) rfl (isEq.stable _) ?_
  refine AllG.cons (k' := 18) rfl (isVal.stable _) ?_
  refine AllG.cons (k' := 19) rfl (isBytes.stable _) ?_
  refine AllG.cons (k' := 20) rfl (isEq.stable _) ?_
  refine AllG.cons (k' := 21) rfl (isEq.stable _) ?_
  refine AllG.cons (k' := 22) rfl (isBytes.stable _) ?_
  refine AllG.cons (k' := 23) rfl (isEq.stable _) ?_
  refine AllG.cons (k' := 24) rfl (isEq.stable _) ?_
  refine AllG.cons (k' := 25) rfl (isEq.stable _) ?_
  refine AllG.cons (k' := 26) rfl (isEq.stable _) ?_
  refine AllG.cons (k' := 27) rfl (isVal.stable _) ?_
  refine AllG.cons (k' := 28) rfl (isEq.stable _) ?_
  refine AllG.cons (k' := 29) rfl (isEq.stable _) ?_
  refine AllG.cons (k' := 30) rfl (isBytes.stable _) ?_
  refine AllG.cons (k' := 31) rfl (isEq.stable _) ?_
  refine AllG.cons (k' := 32) rfl (isEq.stable _) ?_
  refine AllG.cons (k' := 33) rfl (isEq.stable _) ?_
  refine AllG.cons (k' := 34) rfl (isEq.stable _) ?_
  refine AllG.cons (k' := 35) rfl (isVal.stable _) ?_
  refine AllG.cons (k' := 36) rfl (isEq.stable _) ?_
  refine AllG.cons (k' := 37) rfl (isEq.stable _) ?_
  refine AllG.cons (k' := 38) rfl (isEq.stable _) ?_
  refine AllG.cons (k' := 39) rfl (isEq.stable _) ?_
  refine AllG.cons (k' := 40) rfl (isEq.stable _) ?_
  refine AllG.cons (k' := 41) rfl (isEq.stable _) ?_
  refine AllG.cons (k' := 42) rfl (isVal.stable _) ?_
  refine AllG.cons (k' := 43) rfl (isEq.stable _) ?_
  refine AllG.cons (k' := 44) rfl (isEq.stable _) ?_
  refine AllG.cons (k' := 45) rfl (isEq.stable _) ?_
  refine AllG.cons (k' := 46) rfl (isEq.stable _) ?_
  refine AllG.cons (k' := 47) rfl (isEq.stable _) ?_
  refine AllG.cons (k' := 48) rfl (isEq.stable _) ?_
  refine AllG.cons (k' := 49) rfl (isVal.stable _) ?_
  refine AllG.cons (k' := 50) rfl (isVal.stable _) ?_
  refine AllG.cons (k' := 51) rfl (isEq.stable _) ?_
  refine AllG.cons (k' := 52) rfl (isEq.stable _) ?_
  refine AllG.cons (k' := 53) rfl (isVal.stable _) ?_
  refine AllG.cons (k' := 54) rfl (isVal.stable _) ?_
  refine AllG.cons (k' := 55) rfl (isEq.stable _) ?_
  refine AllG.cons (k' := 56) rfl (isEq.stable _) ?_
  refine AllG.cons (k' := 57) rfl (isEq.stable _) ?_
  refine AllG.cons (k' := 58) rfl (isEq.stable _) ?_
  exact AllG.nil

theorem text_y {v : Vl} {ds : List Value} {w : World} {t : ByteArray} (hv : Vl.at w v ds) (ht : nats t = v.txt) (hb : v.count ≤ 1048576) :
    Calls Try.prog 16 #[.agg ds.toArray] w fun e w' => e = .returned (.string t) ∧ Below w.heap.size w w' := by
  refine (text_walk hv (by have := txt_le v; unfold most; omega)).mono ?_
  rintro e w3 ⟨⟨t', rfl, ht'⟩, hb⟩
  exact ⟨by rw [of_nats (ht'.trans ht.symm)], hb⟩
theorem rtext_y {v : Vl} {ds : List Value} {w : World} {t : ByteArray} (hv : Vl.at w v ds) (ht : nats t = v.txt) (hb : v.count ≤ 1048576) :
    Calls Try.prog 17 #[.agg ds.toArray] w fun e w' => e = .returned (.string t) ∧ Below w.heap.size w w' := by
  refine (refText_any v.count v ds w (Nat.le_refl _) hv (by have := txt_le v; omega)).mono ?_
  rintro e w3 ⟨⟨t', rfl, ht'⟩, hb⟩
  exact ⟨by rw [of_nats (ht'.trans ht.symm)], hb⟩
theorem len_y {v : Vl} {ds : List Value} {w : World} (hv : Vl.at w v ds) (hb : v.count ≤ 1048576) :
    Calls Try.prog 15 #[.agg ds.toArray] w fun e w' => e = .returned (.int .i64 v.flat.length) ∧ Below w.heap.size w w' := by
  refine (len_any v ds w hv).mono ?_
  rintro e w3 ⟨rfl, hb⟩
  exact ⟨by rw [len_flat (by omega)], hb⟩
theorem flat_y {v : Vl} {ds : List Value} {w : World} (hv : Vl.at w v ds) (hb : v.count ≤ 1048576) :
    Calls Try.prog 13 #[.agg ds.toArray] w fun e w' => ∃ p c, e = .returned (.slice p v.flat.length c) ∧ BytesAt w' p v.flat.length c v.flat ∧ Below w.heap.size w w' := by
  have hlt := flat_lt v (at_okB v ds hv)
  refine (flat_any v ds w hv (by have := flat_le v; omega)).mono ?_
  rintro e w' ⟨v', ys, rfl, hys, ho, hb⟩
  have hys := hys.out
  subst hys
  obtain ⟨a, c, rfl⟩ := owns_form ho
  exact ⟨a, c, rfl, bytesAt_of_owns ho hlt (Below.refl _ _), hb⟩
theorem rflat_y {v : Vl} {ds : List Value} {w : World} (hv : Vl.at w v ds) (hb : v.count ≤ 1048576) :
    Calls Try.prog 14 #[.agg ds.toArray] w fun e w' => ∃ p c, e = .returned (.slice p v.flat.length c) ∧ BytesAt w' p v.flat.length c v.flat ∧ Below w.heap.size w w' := by
  have hlt := flat_lt v (at_okB v ds hv)
  refine (refFlat_any v.count v ds w (Nat.le_refl _) hv (by have := flat_le v; omega)).mono ?_
  rintro e w' ⟨v', ys, rfl, hys, ho, hb⟩
  have hys := hys.out
  subst hys
  obtain ⟨a, c, rfl⟩ := owns_form ho
  exact ⟨a, c, rfl, bytesAt_of_owns ho hlt (Below.refl _ _), hb⟩
theorem vof_y {u : Vl} {es : List Value} {w : World} (hu : Vl.at w u es) (hs : slimV 40 u = true) :
    Calls Try.prog 8 #[.agg es.toArray] w fun e w' => (∃ zs : List Value, e = .returned (.agg zs.toArray) ∧ Vl.at w' u zs) ∧ Below w.heap.size w w' := by
  refine (lawVal_any 40 u es w hs hu).mono ?_
  rintro e w' ⟨rs, rfl, h, hb⟩
  exact ⟨⟨rs, rfl, h.ref⟩, hb⟩
set_option maxHeartbeats 16000000 in
theorem valueSays_walk (x : K.Cr) (cs : List Value) (v : Vl) (ds : List Value) (u : Vl) (es : List Value) (w : World) (hc : K.Cr.at w x cs) (hv : Vl.at w v ds) (hu : Vl.at w u es) (hsv : v.count ≤ 1048576) (hsu : u.count ≤ 1048576) :
    Calls Try.prog 3 #[.agg cs.toArray, .agg ds.toArray, .agg es.toArray] w fun e w' => e = .returned (.bool true) ∧ Below w.heap.size w w' := by
  obtain ⟨W, hW⟩ : ∃ W, W = ((w.alloc (.cells cs.toArray 27)).alloc (.cells ds.toArray 30)).alloc (.cells es.toArray 30) := ⟨_, rfl⟩
  have hbW : Below w.heap.size w W := by rw [hW]; exact ((((Below.refl _ _).alloc (Nat.le_refl _) _).alloc (by simp) _).alloc (by simp; omega) _)
  have hsW : W.heap.size = w.heap.size + 3 := by rw [hW]; simp
  have hxx : K.Core7 W w.heap.size 0 cs := by
    have h := World.alloc_heap_new w (.cells cs.toArray 27)
    rw [hW]
    exact core7_below (K.core7_in h (K.at_len hc)) (B := w.heap.size + 1) (by omega) (((Below.refl _ _).alloc (by first | (simp; done) | (simp; omega)) _).alloc (by first | (simp; done) | (simp; omega)) _)
  have hxv : Val3 W (w.heap.size + 1) 0 ds := by
    have h := World.alloc_heap_new (w.alloc (.cells cs.toArray 27)) (.cells ds.toArray 30)
    rw [World.size_alloc] at h
    rw [hW]
    exact Val3.below (val3_in h (at_len hv)) (B := w.heap.size + 2) (by omega) ((Below.refl _ _).alloc (by first | (simp; done) | (simp; omega)) _)
  have hxu : Val3 W (w.heap.size + 2) 0 es := by
    have h := World.alloc_heap_new ((w.alloc (.cells cs.toArray 27)).alloc (.cells ds.toArray 30)) (.cells es.toArray 30)
    rw [World.size_alloc, World.size_alloc] at h
    rw [hW]
    exact (val3_in h (at_len hu))
  have HXx : Hid (∀ w', Below W.heap.size W w' → K.Core7 w' w.heap.size 0 cs) := Lib.hid fun w' h => core7_below hxx (by omega) h
  have HAx : Hid (∀ w', Below W.heap.size W w' → K.Cr.at w' x cs) := Lib.hid fun w' h => K.Cr.at_below (hbW.trans (h.mono hbW.size)) (Nat.le_refl _) _ _ hc
  have HXv : Hid (∀ w', Below W.heap.size W w' → Val3 w' (w.heap.size + 1) 0 ds) := Lib.hid fun w' h => Val3.below hxv (by omega) h
  have HAv : Hid (∀ w', Below W.heap.size W w' → Vl.at w' v ds) := Lib.hid fun w' h => Vl.at_below (hbW.trans (h.mono hbW.size)) (Nat.le_refl _) _ _ hv
  have HXu : Hid (∀ w', Below W.heap.size W w' → Val3 w' (w.heap.size + 2) 0 es) := Lib.hid fun w' h => Val3.below hxu (by omega) h
  have HAu : Hid (∀ w', Below W.heap.size W w' → Vl.at w' u es) := Lib.hid fun w' h => Vl.at_below (hbW.trans (h.mono hbW.size)) (Nat.le_refl _) _ _ hu
  have HbW := Lib.hid hbW
  have HsW := Lib.hid hsW
  clear hbW hsW hxx hxv hxu
  have Haw : Hid (∀ w', Below W.heap.size W w' → Calls Try.prog 4 #[] w' fun e w' => e = .returned (.bool true) ∧ Below W.heap.size W w') := Lib.hid fun w' h => by
    refine (awake_any w').mono ?_
    rintro e w3 ⟨rfl, hb⟩
    exact ⟨rfl, h.trans (hb.mono h.size)⟩
  have Hbig : Hid (∀ w', Below W.heap.size W w' → Calls Try.prog 5 #[.agg cs.toArray, .int .i64 100] w' fun e w' => e = .returned (.bool (K.bigN 100 x)) ∧ Below W.heap.size W w') := Lib.hid fun w' h => by
    refine (K.big_any 100 x cs w' (by decide) (HAx.out w' h)).mono ?_
    rintro e w3 ⟨rfl, hb⟩
    exact ⟨rfl, h.trans (hb.mono h.size)⟩
  have Hwdv : Hid (∀ w', Below W.heap.size W w' → Calls Try.prog 6 #[.agg ds.toArray, .int .i64 40] w' fun e w' => e = .returned (.bool (wideN 40 v)) ∧ Below W.heap.size W w') := Lib.hid fun w' h => by
    refine (wide_any 40 v ds w' (by decide) (HAv.out w' h)).mono ?_
    rintro e w3 ⟨rfl, hb⟩
    exact ⟨rfl, h.trans (hb.mono h.size)⟩
  have Hwdu : Hid (∀ w', Below W.heap.size W w' → Calls Try.prog 6 #[.agg es.toArray, .int .i64 40] w' fun e w' => e = .returned (.bool (wideN 40 u)) ∧ Below W.heap.size W w') := Lib.hid fun w' h => by
    refine (wide_any 40 u es w' (by decide) (HAu.out w' h)).mono ?_
    rintro e w3 ⟨rfl, hb⟩
    exact ⟨rfl, h.trans (hb.mono h.size)⟩
  have Hsv := Lib.hid hsv
  have Hsu := Lib.hid hsu
  obtain ⟨k1, s1, n1, a1, len1, cap1, rfl⟩ := K.at_lit hc
  obtain ⟨k2, z2, a2, len2, cap2, rfl⟩ := at_lit hv
  obtain ⟨k3, z3, a3, len3, cap3, rfl⟩ := at_lit hu
  clear hc hv hu hsv hsu
  cases B0 : K.bigN 100 x with
  | true =>
    rw [B0] at Hbig
    go_enter Try.func3, Try.ntmps3
    go_upto_region 1 with fail
    rw [← hW]
    clear hW
    go_wp2_with (first
      | (go_at_call 4; refine (Haw.out _ (Below.refl _ _)).mono ?_; rintro e W1 ⟨rfl, hb1⟩; have q0x := HXx.out _ hb1; have call0 := Hbig.out _ hb1; clear hb1)
      | (refine K.wpList_load_core rfl _ rfl w.heap.size 0 _ rfl q0x ?_)
      | (go_at_call 5; refine call0.mono ?_; clear call0; rintro e W2 ⟨rfl, hb2⟩; clear q0x; have Hb2 := Lib.hid hb2; clear hb2)
      | fail)
    go_ret
    exact ⟨rfl, HbW.out.trans (Hb2.out.mono HbW.out.size)⟩
  | false =>
  rw [B0] at Hbig
  cases B1 : wideN 40 v with
  | true =>
    rw [B1] at Hwdv
    go_enter Try.func3, Try.ntmps3
    go_upto_region 1 with fail
    rw [← hW]
    clear hW
    go_wp2_with (first
      | (go_at_call 4; refine (Haw.out _ (Below.refl _ _)).mono ?_; rintro e W1 ⟨rfl, hb1⟩; have q0x := HXx.out _ hb1; have call0 := Hbig.out _ hb1; clear hb1)
      | (refine K.wpList_load_core rfl _ rfl w.heap.size 0 _ rfl q0x ?_)
      | (go_at_call 5; refine call0.mono ?_; clear call0; rintro e W2 ⟨rfl, hb2⟩; clear q0x; have q1v := HXv.out _ hb2; have call1 := Hwdv.out _ hb2; clear hb2)
      | (refine wpList_load_val_want rfl _ rfl (w.heap.size + 1) 0 _ rfl q1v ?_)
      | (go_at_call 6; refine call1.mono ?_; clear call1; rintro e W3 ⟨rfl, hb3⟩; clear q1v; have Hb3 := Lib.hid hb3; clear hb3)
      | fail)
    go_ret
    exact ⟨rfl, HbW.out.trans (Hb3.out.mono HbW.out.size)⟩
  | false =>
  rw [B1] at Hwdv
  cases B2 : wideN 40 u with
  | true =>
    rw [B2] at Hwdu
    go_enter Try.func3, Try.ntmps3
    go_upto_region 1 with fail
    rw [← hW]
    clear hW
    go_wp2_with (first
      | (go_at_call 4; refine (Haw.out _ (Below.refl _ _)).mono ?_; rintro e W1 ⟨rfl, hb1⟩; have q0x := HXx.out _ hb1; have call0 := Hbig.out _ hb1; clear hb1)
      | (refine K.wpList_load_core rfl _ rfl w.heap.size 0 _ rfl q0x ?_)
      | (go_at_call 5; refine call0.mono ?_; clear call0; rintro e W2 ⟨rfl, hb2⟩; clear q0x; have q1v := HXv.out _ hb2; have call1 := Hwdv.out _ hb2; clear hb2)
      | (refine wpList_load_val_want rfl _ rfl (w.heap.size + 1) 0 _ rfl q1v ?_)
      | (go_at_call 6; refine call1.mono ?_; clear call1; rintro e W3 ⟨rfl, hb3⟩; clear q1v; have q2u := HXu.out _ hb3; have call2 := Hwdu.out _ hb3; clear hb3)
      | (refine wpList_load_val_want rfl _ rfl (w.heap.size + 2) 0 _ rfl q2u ?_)
      | (go_at_call 6; refine call2.mono ?_; clear call2; rintro e W4 ⟨rfl, hb4⟩; clear q2u; have Hb4 := Lib.hid hb4; clear hb4)
      | fail)
    go_ret
    exact ⟨rfl, HbW.out.trans (Hb4.out.mono HbW.out.size)⟩
  | false =>
  rw [B2] at Hwdu
  have Hslc := Lib.hid (K.slim_of_big 100 x B0)
  have Hslv := Lib.hid (slim_of_wide 40 v B1)
  have Hsl := Lib.hid (slim_of_wide 40 u B2)
  clear B0 B1 B2
  go_enter Try.func3, Try.ntmps3
  go_upto_region 1 with fail
  rw [← hW]
  clear hW
  go_wp2_with (first
    | (go_at_call 4; refine (Haw.out _ (Below.refl _ _)).mono ?_; rintro e W1 ⟨rfl, hb1⟩; have q0x := HXx.out _ hb1; have call0 := Hbig.out _ hb1; clear hb1)
    | (refine K.wpList_load_core rfl _ rfl w.heap.size 0 _ rfl q0x ?_)
    | (go_at_call 5; refine call0.mono ?_; clear call0; rintro e W2 ⟨rfl, hb2⟩; clear q0x; have q1v := HXv.out _ hb2; have call1 := Hwdv.out _ hb2; clear hb2)
    | (refine wpList_load_val_want rfl _ rfl (w.heap.size + 1) 0 _ rfl q1v ?_)
    | (go_at_call 6; refine call1.mono ?_; clear call1; rintro e W3 ⟨rfl, hb3⟩; clear q1v; have q2u := HXu.out _ hb3; have call2 := Hwdu.out _ hb3; clear hb3)
    | (refine wpList_load_val_want rfl _ rfl (w.heap.size + 2) 0 _ rfl q2u ?_)
    | (go_at_call 6; refine call2.mono ?_; clear call2; rintro e W4 ⟨rfl, hb4⟩; clear q2u; have Hb4 := Lib.hid hb4; clear hb4)
    | fail)
  obtain ⟨t1, ht1⟩ : ∃ t1 : ByteArray, nats t1 = v.txt := ⟨⟨(toBytes v.txt).toArray⟩, nats_bytes (txt_lt v (at_okB v _ (HAv.out W (Below.refl _ _))))⟩
  obtain ⟨tf, htf⟩ : ∃ tf : ByteArray, tf = ⟨(toBytes v.flat).toArray⟩ := ⟨_, rfl⟩
  obtain ⟨g, hg⟩ : ∃ g, goodV x v = g := ⟨_, rfl⟩
  obtain ⟨f, hf⟩ : ∃ f, fullV x v = f := ⟨_, rfl⟩
  obtain ⟨b, hb⟩ : ∃ b, v.same u = b := ⟨_, rfl⟩
  have Ht1 := Lib.hid ht1
  have Htf := Lib.hid htf
  have Hg := Lib.hid hg
  have Hf := Lib.hid hf
  have Hb := Lib.hid hb
  clear ht1 htf hg hf hb
  go_cut [7, 8] from 21 to 24 (fun v7 v8 wx => ∃ W5, W5 = wx ∧ ∃ (b7 b8 : Nat) (rs zs : List Value), v7 = .pointer (some ⟨b7, 0, none⟩) ∧ v8 = .pointer (some ⟨b8, 0, none⟩) ∧ K.RefC W5 b7 0 rs ∧ K.Cr.ref W5 x rs ∧ Val3 W5 b8 0 zs ∧ Vl.at W5 v zs ∧ Below W4.heap.size W4 W5)
  case first =>
   rename_i J0 K' hR hMet
   obtain ⟨wd, hwd⟩ : ∃ wd, wd = W4.drew := ⟨_, rfl⟩
   have hBd : Below W4.heap.size W4 wd := by rw [hwd]; exact (Below.refl _ _).drew
   refine wp_region_hold (fun w' => Below W4.heap.size W4 w') (.plain 0 (.plain 2 (.fork3 1 (.fork3 3 (.fork 4 (.sole 5 (.sole 6 (.sole 7 .done))) 5 (.sole 4 (.sole 6 (.sole 7 .done)))) 4 (.fork 3 (.sole 5 (.sole 6 (.sole 7 .done))) 5 (.sole 3 (.sole 6 (.sole 7 .done)))) 5 (.fork 3 (.sole 4 (.sole 6 (.sole 7 .done))) 4 (.sole 3 (.sole 6 (.sole 7 .done))))) 4 (.fork 1 (.fork 3 (.sole 5 (.sole 6 (.sole 7 .done))) 5 (.sole 3 (.sole 6 (.sole 7 .done)))) 5 (.sole 1 (.sole 3 (.sole 6 (.sole 7 .done))))) 5 (.fork 1 (.fork 3 (.sole 4 (.sole 6 (.sole 7 .done))) 4 (.sole 3 (.sole 6 (.sole 7 .done)))) 4 (.sole 1 (.sole 3 (.sole 6 (.sole 7 .done)))))))) (by rw [← hwd]; exact hBd) (by kernel_rfl) (by kernel_rfl) (fun c a d v w h => by cases d <;> exact h) ?_
   rw [← hwd]
   clear hwd
   repeat (first
       | (refine' hold_skip ?_ ?_ ?_
          rotate_left 1
          · simp only [List.getElem?_toArray, List.getElem?_cons_zero, List.getElem?_cons_succ]; exact rfl
          · exact rfl
          simp only [Act.put, List.setIfInBounds_toArray, List.set_cons_zero, List.set_cons_succ])
       | (refine' hold_want ?_ ?_ (fun J hJ => ?_)
          rotate_left 1
          · simp only [List.getElem?_toArray, List.getElem?_cons_zero, List.getElem?_cons_succ]; exact rfl
          · exact rfl
          first
          | (refine K.quiet_load_core _ rfl w.heap.size 0 _ rfl (fun w' ⟨L, hL⟩ => HXx.out _ (Hb4.out.trans ((hL ▸ L.ok : Below W4.heap.size W4 w').mono Hb4.out.size))) ?_; refine hJ _ ?_; clear hJ J; try simp only [Act.put, List.setIfInBounds_toArray, List.set_cons_zero, List.set_cons_succ])
          | (refine quiet_load_val _ rfl (w.heap.size + 1) 0 _ rfl (fun w' ⟨L, hL⟩ => HXv.out _ (Hb4.out.trans ((hL ▸ L.ok : Below W4.heap.size W4 w').mono Hb4.out.size))) ?_; refine hJ _ ?_; clear hJ J; try simp only [Act.put, List.setIfInBounds_toArray, List.set_cons_zero, List.set_cons_succ])
          | (refine quiet_extract _ _ rfl _ _ rfl rfl ?_; refine hJ _ ?_; clear hJ J; try simp only [Act.put, List.setIfInBounds_toArray, List.set_cons_zero, List.set_cons_succ])
          | (go_big_quiet_op; refine hJ _ ?_; clear hJ J; try simp only [Act.put, List.setIfInBounds_toArray, List.set_cons_zero, List.set_cons_succ])))
   refine hold_fork3 ?_ ?_ ?_
   · refine' hold_step ?_ ?_ (fun J hJ => ?_)
     rotate_left 1
     · simp only [List.getElem?_toArray, List.getElem?_cons_zero, List.getElem?_cons_succ]; exact rfl
     · exact rfl
     go_simp
     refine (K.lawCore_any 100 x _ _ Hslc.out (HAx.out _ (Hb4.out.trans (hBd.mono Hb4.out.size)))).mono ?_
     rintro e wc ⟨rs, rfl, hin, hb'⟩
     have h0c := K.refc_start hin [] (fun b hb => by simp at hb)
     have hBc : Below W4.heap.size W4 wc := hBd.trans (hb'.mono hBd.size)
     refine hJ _ _ hBc ?_
     clear hJ J hin hb'
     try simp only [Act.put, List.setIfInBounds_toArray, List.set_cons_zero, List.set_cons_succ]
     refine hold_fork3 ?_ ?_ ?_
     · refine' hold_step ?_ ?_ (fun J hJ => ?_)
       rotate_left 1
       · simp only [List.getElem?_toArray, List.getElem?_cons_zero, List.getElem?_cons_succ]; exact rfl
       · exact rfl
       go_simp
       refine (lawVal_any 40 v _ _ Hslv.out (HAv.out _ (Hb4.out.trans (hBc.mono Hb4.out.size)))).mono ?_
       rintro e wv ⟨zs, rfl, hin, hb'⟩
       have h0v := refv_start hin [] (fun b hb => by simp at hb)
       have hBv : Below W4.heap.size W4 wv := hBc.trans (hb'.mono hBc.size)
       have hBvc := K.refc_later h0c hb'
       refine hJ _ _ hBv ?_
       clear hJ J hin hb'
       try simp only [Act.put, List.setIfInBounds_toArray, List.set_cons_zero, List.set_cons_succ]
       refine hold_fork ?_ ?_
       · refine' hold_step ?_ ?_ (fun J hJ => ?_)
         rotate_left 1
         · simp only [List.getElem?_toArray, List.getElem?_cons_zero, List.getElem?_cons_succ]; exact rfl
         · exact rfl
         refine wp_alloc_z 38 K.zero259 K.zeroRefCore rfl ?_
         obtain ⟨wa7, hwa7⟩ : ∃ wa7, wa7 = wv.alloc (.cells K.zero259 38) := ⟨_, rfl⟩
         rw [← hwa7]
         have hba7 : Below wv.heap.size wv wa7 := by rw [hwa7]; exact K.alloc_below _ _
         have hBa7 : Below W4.heap.size W4 wa7 := hBv.trans (hba7.mono hBv.size)
         have hBa7c := K.refc_alloc hBvc (.cells K.zero259 38)
         rw [← hwa7] at hBa7c
         have hBa7v := refv_alloc h0v (.cells K.zero259 38)
         rw [← hwa7] at hBa7v
         have hx7 : K.RBox wa7 wv.heap.size K.zero259 := by rw [hwa7]; exact K.rbox_start _ _
         obtain ⟨b7, hb7⟩ : ∃ b7, b7 = wv.heap.size := ⟨_, rfl⟩
         rw [← hb7] at hx7 hBa7c hBa7v
         rw [← hb7]
         have hle7 : W4.heap.size ≤ b7 := by rw [hb7]; exact hBv.size
         refine hJ _ _ hBa7 ?_
         clear hJ J hwa7 hba7 hb7
         try simp only [Act.put, List.setIfInBounds_toArray, List.set_cons_zero, List.set_cons_succ]
         refine' hold_sole ?_ ?_ (fun J hJ => ?_)
         rotate_left 1
         · simp only [List.getElem?_toArray, List.getElem?_cons_zero, List.getElem?_cons_succ]; exact rfl
         · exact rfl
         refine wp_alloc_z 42 zero3 zeroRefVal rfl ?_
         obtain ⟨wa8, hwa8⟩ : ∃ wa8, wa8 = wa7.alloc (.cells zero3 42) := ⟨_, rfl⟩
         rw [← hwa8]
         have hba8 : Below wa7.heap.size wa7 wa8 := by rw [hwa8]; exact K.alloc_below _ _
         have hBa8 : Below W4.heap.size W4 wa8 := hBa7.trans (hba8.mono hBa7.size)
         have hBa8c := K.refc_alloc hBa7c (.cells zero3 42)
         rw [← hwa8] at hBa8c
         have hBa8v := refv_alloc hBa7v (.cells zero3 42)
         rw [← hwa8] at hBa8v
         have hBa8x7 := hx7.below hba8 hx7.lt
         have hx8 : RBox wa8 wa7.heap.size zero3 := by rw [hwa8]; exact rbox_start _ _
         obtain ⟨b8, hb8⟩ : ∃ b8, b8 = wa7.heap.size := ⟨_, rfl⟩
         rw [← hb8] at hx8 hBa8c hBa8v
         rw [← hb8]
         have hle8 : W4.heap.size ≤ b8 := by rw [hb8]; exact hBa7.size
         have hne : b7 ≠ b8 := by have := hx7.lt; omega
         refine hJ _ _ hBa8 ?_
         clear hJ J hwa8 hba8 hb8
         try simp only [Act.put, List.setIfInBounds_toArray, List.set_cons_zero, List.set_cons_succ]
         refine' hold_sole ?_ ?_ (fun J hJ => ?_)
         rotate_left 1
         · simp only [List.getElem?_toArray, List.getElem?_cons_zero, List.getElem?_cons_succ]; exact rfl
         · exact rfl
         refine K.wp_store_rc _ _ rfl b7 _ rs.toArray rfl rfl hBa8x7 (by rw [List.size_toArray]; exact K.refIn_len hBa8c) K.zero259_size (K.one_all (K.ref_one_cells hBa8c)) ?_
         intro ws7 hn7 ho7
         have hBs7 : Below W4.heap.size W4 ws7 := ho7.below hBa8 hle7
         have hBs7c := K.refc_only hBa8c ho7 (by simp)
         have hBs7v := refv_only hBa8v ho7 (by simp)
         have hs8 : RBox ws7 b8 zero3 := (ho7.block _ hne.symm).trans hx8
         refine hJ _ _ hBs7 ?_
         clear hJ J
         try simp only [Act.put]
         refine' hold_sole ?_ ?_ (fun J hJ => ?_)
         rotate_left 1
         · simp only [List.getElem?_toArray, List.getElem?_cons_zero, List.getElem?_cons_succ]; exact rfl
         · exact rfl
         refine wp_store_rv _ _ rfl b8 _ zs.toArray rfl rfl hs8 (by rw [List.size_toArray]; exact refIn_len hBs7v) rfl (K.one_all (ref_one_cells hBs7v)) ?_
         intro ws8 hn8 ho8
         have hBs8 : Below W4.heap.size W4 ws8 := ho8.below hBs7 hle8
         have hBs8c := K.refc_only hBs7c ho8 (by simp)
         have hBs8v := refv_only hBs7v ho8 (by simp)
         have hs7 : K.RBox ws8 b7 rs.toArray := (ho8.block _ hne).trans hn7
         refine hJ _ _ hBs8 ?_
         clear hJ J
         try simp only [Act.put]
         refine hold_done ?_
         refine hMet _ _ (Met.intro (hR _ _ ?_))
         exact ⟨_, _, _, _, _, _, ⟨_, rfl, b7, b8, rs, zs, rfl, rfl, K.refc_in hs7 (K.refIn_len hBs8c), hBs8c.ref, refv_in hn8 (refIn_len hBs8v), hBs8v.ref, hBs8⟩, rfl⟩

       · refine' hold_step ?_ ?_ (fun J hJ => ?_)
         rotate_left 1
         · simp only [List.getElem?_toArray, List.getElem?_cons_zero, List.getElem?_cons_succ]; exact rfl
         · exact rfl
         refine wp_alloc_z 42 zero3 zeroRefVal rfl ?_
         obtain ⟨wa8, hwa8⟩ : ∃ wa8, wa8 = wv.alloc (.cells zero3 42) := ⟨_, rfl⟩
         rw [← hwa8]
         have hba8 : Below wv.heap.size wv wa8 := by rw [hwa8]; exact K.alloc_below _ _
         have hBa8 : Below W4.heap.size W4 wa8 := hBv.trans (hba8.mono hBv.size)
         have hBa8c := K.refc_alloc hBvc (.cells zero3 42)
         rw [← hwa8] at hBa8c
         have hBa8v := refv_alloc h0v (.cells zero3 42)
         rw [← hwa8] at hBa8v
         have hx8 : RBox wa8 wv.heap.size zero3 := by rw [hwa8]; exact rbox_start _ _
         obtain ⟨b8, hb8⟩ : ∃ b8, b8 = wv.heap.size := ⟨_, rfl⟩
         rw [← hb8] at hx8 hBa8c hBa8v
         rw [← hb8]
         have hle8 : W4.heap.size ≤ b8 := by rw [hb8]; exact hBv.size
         refine hJ _ _ hBa8 ?_
         clear hJ J hwa8 hba8 hb8
         try simp only [Act.put, List.setIfInBounds_toArray, List.set_cons_zero, List.set_cons_succ]
         refine' hold_sole ?_ ?_ (fun J hJ => ?_)
         rotate_left 1
         · simp only [List.getElem?_toArray, List.getElem?_cons_zero, List.getElem?_cons_succ]; exact rfl
         · exact rfl
         refine wp_alloc_z 38 K.zero259 K.zeroRefCore rfl ?_
         obtain ⟨wa7, hwa7⟩ : ∃ wa7, wa7 = wa8.alloc (.cells K.zero259 38) := ⟨_, rfl⟩
         rw [← hwa7]
         have hba7 : Below wa8.heap.size wa8 wa7 := by rw [hwa7]; exact K.alloc_below _ _
         have hBa7 : Below W4.heap.size W4 wa7 := hBa8.trans (hba7.mono hBa8.size)
         have hBa7c := K.refc_alloc hBa8c (.cells K.zero259 38)
         rw [← hwa7] at hBa7c
         have hBa7v := refv_alloc hBa8v (.cells K.zero259 38)
         rw [← hwa7] at hBa7v
         have hBa7x8 := hx8.below hba7 hx8.lt
         have hx7 : K.RBox wa7 wa8.heap.size K.zero259 := by rw [hwa7]; exact K.rbox_start _ _
         obtain ⟨b7, hb7⟩ : ∃ b7, b7 = wa8.heap.size := ⟨_, rfl⟩
         rw [← hb7] at hx7 hBa7c hBa7v
         rw [← hb7]
         have hle7 : W4.heap.size ≤ b7 := by rw [hb7]; exact hBa8.size
         have hne : b7 ≠ b8 := by have := hx8.lt; omega
         refine hJ _ _ hBa7 ?_
         clear hJ J hwa7 hba7 hb7
         try simp only [Act.put, List.setIfInBounds_toArray, List.set_cons_zero, List.set_cons_succ]
         refine' hold_sole ?_ ?_ (fun J hJ => ?_)
         rotate_left 1
         · simp only [List.getElem?_toArray, List.getElem?_cons_zero, List.getElem?_cons_succ]; exact rfl
         · exact rfl
         refine K.wp_store_rc _ _ rfl b7 _ rs.toArray rfl rfl hx7 (by rw [List.size_toArray]; exact K.refIn_len hBa7c) K.zero259_size (K.one_all (K.ref_one_cells hBa7c)) ?_
         intro ws7 hn7 ho7
         have hBs7 : Below W4.heap.size W4 ws7 := ho7.below hBa7 hle7
         have hBs7c := K.refc_only hBa7c ho7 (by simp)
         have hBs7v := refv_only hBa7v ho7 (by simp)
         have hs8 : RBox ws7 b8 zero3 := (ho7.block _ hne.symm).trans hBa7x8
         refine hJ _ _ hBs7 ?_
         clear hJ J
         try simp only [Act.put]
         refine' hold_sole ?_ ?_ (fun J hJ => ?_)
         rotate_left 1
         · simp only [List.getElem?_toArray, List.getElem?_cons_zero, List.getElem?_cons_succ]; exact rfl
         · exact rfl
         refine wp_store_rv _ _ rfl b8 _ zs.toArray rfl rfl hs8 (by rw [List.size_toArray]; exact refIn_len hBs7v) rfl (K.one_all (ref_one_cells hBs7v)) ?_
         intro ws8 hn8 ho8
         have hBs8 : Below W4.heap.size W4 ws8 := ho8.below hBs7 hle8
         have hBs8c := K.refc_only hBs7c ho8 (by simp)
         have hBs8v := refv_only hBs7v ho8 (by simp)
         have hs7 : K.RBox ws8 b7 rs.toArray := (ho8.block _ hne).trans hn7
         refine hJ _ _ hBs8 ?_
         clear hJ J
         try simp only [Act.put]
         refine hold_done ?_
         refine hMet _ _ (Met.intro (hR _ _ ?_))
         exact ⟨_, _, _, _, _, _, ⟨_, rfl, b7, b8, rs, zs, rfl, rfl, K.refc_in hs7 (K.refIn_len hBs8c), hBs8c.ref, refv_in hn8 (refIn_len hBs8v), hBs8v.ref, hBs8⟩, rfl⟩


     · refine' hold_step ?_ ?_ (fun J hJ => ?_)
       rotate_left 1
       · simp only [List.getElem?_toArray, List.getElem?_cons_zero, List.getElem?_cons_succ]; exact rfl
       · exact rfl
       refine wp_alloc_z 38 K.zero259 K.zeroRefCore rfl ?_
       obtain ⟨wa7, hwa7⟩ : ∃ wa7, wa7 = wc.alloc (.cells K.zero259 38) := ⟨_, rfl⟩
       rw [← hwa7]
       have hba7 : Below wc.heap.size wc wa7 := by rw [hwa7]; exact K.alloc_below _ _
       have hBa7 : Below W4.heap.size W4 wa7 := hBc.trans (hba7.mono hBc.size)
       have hBa7c := K.refc_alloc h0c (.cells K.zero259 38)
       rw [← hwa7] at hBa7c
       have hx7 : K.RBox wa7 wc.heap.size K.zero259 := by rw [hwa7]; exact K.rbox_start _ _
       obtain ⟨b7, hb7⟩ : ∃ b7, b7 = wc.heap.size := ⟨_, rfl⟩
       rw [← hb7] at hx7 hBa7c
       rw [← hb7]
       have hle7 : W4.heap.size ≤ b7 := by rw [hb7]; exact hBc.size
       refine hJ _ _ hBa7 ?_
       clear hJ J hwa7 hba7 hb7
       try simp only [Act.put, List.setIfInBounds_toArray, List.set_cons_zero, List.set_cons_succ]
       refine hold_fork ?_ ?_
       · refine' hold_step ?_ ?_ (fun J hJ => ?_)
         rotate_left 1
         · simp only [List.getElem?_toArray, List.getElem?_cons_zero, List.getElem?_cons_succ]; exact rfl
         · exact rfl
         go_simp
         refine (lawVal_any 40 v _ _ Hslv.out (HAv.out _ (Hb4.out.trans (hBa7.mono Hb4.out.size)))).mono ?_
         rintro e wv ⟨zs, rfl, hin, hb'⟩
         have h0v := refv_start hin [b7] (fun b hb => by simp only [List.mem_cons, List.not_mem_nil, or_false] at hb; subst hb; exact hx7.lt)
         have hBv : Below W4.heap.size W4 wv := hBa7.trans (hb'.mono hBa7.size)
         have hBvc := K.refc_later hBa7c hb'
         have hBvx7 := hx7.below hb' hx7.lt
         refine hJ _ _ hBv ?_
         clear hJ J hin hb'
         try simp only [Act.put, List.setIfInBounds_toArray, List.set_cons_zero, List.set_cons_succ]
         refine' hold_sole ?_ ?_ (fun J hJ => ?_)
         rotate_left 1
         · simp only [List.getElem?_toArray, List.getElem?_cons_zero, List.getElem?_cons_succ]; exact rfl
         · exact rfl
         refine wp_alloc_z 42 zero3 zeroRefVal rfl ?_
         obtain ⟨wa8, hwa8⟩ : ∃ wa8, wa8 = wv.alloc (.cells zero3 42) := ⟨_, rfl⟩
         rw [← hwa8]
         have hba8 : Below wv.heap.size wv wa8 := by rw [hwa8]; exact K.alloc_below _ _
         have hBa8 : Below W4.heap.size W4 wa8 := hBv.trans (hba8.mono hBv.size)
         have hBa8c := K.refc_alloc hBvc (.cells zero3 42)
         rw [← hwa8] at hBa8c
         have hBa8v := refv_alloc h0v (.cells zero3 42)
         rw [← hwa8] at hBa8v
         have hBa8x7 := hBvx7.below hba8 hBvx7.lt
         have hx8 : RBox wa8 wv.heap.size zero3 := by rw [hwa8]; exact rbox_start _ _
         obtain ⟨b8, hb8⟩ : ∃ b8, b8 = wv.heap.size := ⟨_, rfl⟩
         rw [← hb8] at hx8 hBa8c hBa8v
         rw [← hb8]
         have hle8 : W4.heap.size ≤ b8 := by rw [hb8]; exact hBv.size
         have hne : b7 ≠ b8 := by have := hBvx7.lt; omega
         refine hJ _ _ hBa8 ?_
         clear hJ J hwa8 hba8 hb8
         try simp only [Act.put, List.setIfInBounds_toArray, List.set_cons_zero, List.set_cons_succ]
         refine' hold_sole ?_ ?_ (fun J hJ => ?_)
         rotate_left 1
         · simp only [List.getElem?_toArray, List.getElem?_cons_zero, List.getElem?_cons_succ]; exact rfl
         · exact rfl
         refine K.wp_store_rc _ _ rfl b7 _ rs.toArray rfl rfl hBa8x7 (by rw [List.size_toArray]; exact K.refIn_len hBa8c) K.zero259_size (K.one_all (K.ref_one_cells hBa8c)) ?_
         intro ws7 hn7 ho7
         have hBs7 : Below W4.heap.size W4 ws7 := ho7.below hBa8 hle7
         have hBs7c := K.refc_only hBa8c ho7 (by simp)
         have hBs7v := refv_only hBa8v ho7 (by simp)
         have hs8 : RBox ws7 b8 zero3 := (ho7.block _ hne.symm).trans hx8
         refine hJ _ _ hBs7 ?_
         clear hJ J
         try simp only [Act.put]
         refine' hold_sole ?_ ?_ (fun J hJ => ?_)
         rotate_left 1
         · simp only [List.getElem?_toArray, List.getElem?_cons_zero, List.getElem?_cons_succ]; exact rfl
         · exact rfl
         refine wp_store_rv _ _ rfl b8 _ zs.toArray rfl rfl hs8 (by rw [List.size_toArray]; exact refIn_len hBs7v) rfl (K.one_all (ref_one_cells hBs7v)) ?_
         intro ws8 hn8 ho8
         have hBs8 : Below W4.heap.size W4 ws8 := ho8.below hBs7 hle8
         have hBs8c := K.refc_only hBs7c ho8 (by simp)
         have hBs8v := refv_only hBs7v ho8 (by simp)
         have hs7 : K.RBox ws8 b7 rs.toArray := (ho8.block _ hne).trans hn7
         refine hJ _ _ hBs8 ?_
         clear hJ J
         try simp only [Act.put]
         refine hold_done ?_
         refine hMet _ _ (Met.intro (hR _ _ ?_))
         exact ⟨_, _, _, _, _, _, ⟨_, rfl, b7, b8, rs, zs, rfl, rfl, K.refc_in hs7 (K.refIn_len hBs8c), hBs8c.ref, refv_in hn8 (refIn_len hBs8v), hBs8v.ref, hBs8⟩, rfl⟩

       · refine' hold_step ?_ ?_ (fun J hJ => ?_)
         rotate_left 1
         · simp only [List.getElem?_toArray, List.getElem?_cons_zero, List.getElem?_cons_succ]; exact rfl
         · exact rfl
         refine wp_alloc_z 42 zero3 zeroRefVal rfl ?_
         obtain ⟨wa8, hwa8⟩ : ∃ wa8, wa8 = wa7.alloc (.cells zero3 42) := ⟨_, rfl⟩
         rw [← hwa8]
         have hba8 : Below wa7.heap.size wa7 wa8 := by rw [hwa8]; exact K.alloc_below _ _
         have hBa8 : Below W4.heap.size W4 wa8 := hBa7.trans (hba8.mono hBa7.size)
         have hBa8c := K.refc_alloc hBa7c (.cells zero3 42)
         rw [← hwa8] at hBa8c
         have hBa8x7 := hx7.below hba8 hx7.lt
         have hx8 : RBox wa8 wa7.heap.size zero3 := by rw [hwa8]; exact rbox_start _ _
         obtain ⟨b8, hb8⟩ : ∃ b8, b8 = wa7.heap.size := ⟨_, rfl⟩
         rw [← hb8] at hx8 hBa8c
         rw [← hb8]
         have hle8 : W4.heap.size ≤ b8 := by rw [hb8]; exact hBa7.size
         have hne : b7 ≠ b8 := by have := hx7.lt; omega
         refine hJ _ _ hBa8 ?_
         clear hJ J hwa8 hba8 hb8
         try simp only [Act.put, List.setIfInBounds_toArray, List.set_cons_zero, List.set_cons_succ]
         refine' hold_sole ?_ ?_ (fun J hJ => ?_)
         rotate_left 1
         · simp only [List.getElem?_toArray, List.getElem?_cons_zero, List.getElem?_cons_succ]; exact rfl
         · exact rfl
         go_simp
         refine (lawVal_any 40 v _ _ Hslv.out (HAv.out _ (Hb4.out.trans (hBa8.mono Hb4.out.size)))).mono ?_
         rintro e wv ⟨zs, rfl, hin, hb'⟩
         have h0v := refv_start hin [b8, b7] (fun b hb => by simp only [List.mem_cons, List.not_mem_nil, or_false] at hb; rcases hb with rfl | rfl; exact hx8.lt; exact hBa8x7.lt)
         have hBv : Below W4.heap.size W4 wv := hBa8.trans (hb'.mono hBa8.size)
         have hBvc := K.refc_later hBa8c hb'
         have hBvx7 := hBa8x7.below hb' hBa8x7.lt
         have hBvx8 := hx8.below hb' hx8.lt
         refine hJ _ _ hBv ?_
         clear hJ J hin hb'
         try simp only [Act.put, List.setIfInBounds_toArray, List.set_cons_zero, List.set_cons_succ]
         refine' hold_sole ?_ ?_ (fun J hJ => ?_)
         rotate_left 1
         · simp only [List.getElem?_toArray, List.getElem?_cons_zero, List.getElem?_cons_succ]; exact rfl
         · exact rfl
         refine K.wp_store_rc _ _ rfl b7 _ rs.toArray rfl rfl hBvx7 (by rw [List.size_toArray]; exact K.refIn_len hBvc) K.zero259_size (K.one_all (K.ref_one_cells hBvc)) ?_
         intro ws7 hn7 ho7
         have hBs7 : Below W4.heap.size W4 ws7 := ho7.below hBv hle7
         have hBs7c := K.refc_only hBvc ho7 (by simp)
         have hBs7v := refv_only h0v ho7 (by simp)
         have hs8 : RBox ws7 b8 zero3 := (ho7.block _ hne.symm).trans hBvx8
         refine hJ _ _ hBs7 ?_
         clear hJ J
         try simp only [Act.put]
         refine' hold_sole ?_ ?_ (fun J hJ => ?_)
         rotate_left 1
         · simp only [List.getElem?_toArray, List.getElem?_cons_zero, List.getElem?_cons_succ]; exact rfl
         · exact rfl
         refine wp_store_rv _ _ rfl b8 _ zs.toArray rfl rfl hs8 (by rw [List.size_toArray]; exact refIn_len hBs7v) rfl (K.one_all (ref_one_cells hBs7v)) ?_
         intro ws8 hn8 ho8
         have hBs8 : Below W4.heap.size W4 ws8 := ho8.below hBs7 hle8
         have hBs8c := K.refc_only hBs7c ho8 (by simp)
         have hBs8v := refv_only hBs7v ho8 (by simp)
         have hs7 : K.RBox ws8 b7 rs.toArray := (ho8.block _ hne).trans hn7
         refine hJ _ _ hBs8 ?_
         clear hJ J
         try simp only [Act.put]
         refine hold_done ?_
         refine hMet _ _ (Met.intro (hR _ _ ?_))
         exact ⟨_, _, _, _, _, _, ⟨_, rfl, b7, b8, rs, zs, rfl, rfl, K.refc_in hs7 (K.refIn_len hBs8c), hBs8c.ref, refv_in hn8 (refIn_len hBs8v), hBs8v.ref, hBs8⟩, rfl⟩


     · refine' hold_step ?_ ?_ (fun J hJ => ?_)
       rotate_left 1
       · simp only [List.getElem?_toArray, List.getElem?_cons_zero, List.getElem?_cons_succ]; exact rfl
       · exact rfl
       refine wp_alloc_z 42 zero3 zeroRefVal rfl ?_
       obtain ⟨wa8, hwa8⟩ : ∃ wa8, wa8 = wc.alloc (.cells zero3 42) := ⟨_, rfl⟩
       rw [← hwa8]
       have hba8 : Below wc.heap.size wc wa8 := by rw [hwa8]; exact K.alloc_below _ _
       have hBa8 : Below W4.heap.size W4 wa8 := hBc.trans (hba8.mono hBc.size)
       have hBa8c := K.refc_alloc h0c (.cells zero3 42)
       rw [← hwa8] at hBa8c
       have hx8 : RBox wa8 wc.heap.size zero3 := by rw [hwa8]; exact rbox_start _ _
       obtain ⟨b8, hb8⟩ : ∃ b8, b8 = wc.heap.size := ⟨_, rfl⟩
       rw [← hb8] at hx8 hBa8c
       rw [← hb8]
       have hle8 : W4.heap.size ≤ b8 := by rw [hb8]; exact hBc.size
       refine hJ _ _ hBa8 ?_
       clear hJ J hwa8 hba8 hb8
       try simp only [Act.put, List.setIfInBounds_toArray, List.set_cons_zero, List.set_cons_succ]
       refine hold_fork ?_ ?_
       · refine' hold_step ?_ ?_ (fun J hJ => ?_)
         rotate_left 1
         · simp only [List.getElem?_toArray, List.getElem?_cons_zero, List.getElem?_cons_succ]; exact rfl
         · exact rfl
         go_simp
         refine (lawVal_any 40 v _ _ Hslv.out (HAv.out _ (Hb4.out.trans (hBa8.mono Hb4.out.size)))).mono ?_
         rintro e wv ⟨zs, rfl, hin, hb'⟩
         have h0v := refv_start hin [b8] (fun b hb => by simp only [List.mem_cons, List.not_mem_nil, or_false] at hb; subst hb; exact hx8.lt)
         have hBv : Below W4.heap.size W4 wv := hBa8.trans (hb'.mono hBa8.size)
         have hBvc := K.refc_later hBa8c hb'
         have hBvx8 := hx8.below hb' hx8.lt
         refine hJ _ _ hBv ?_
         clear hJ J hin hb'
         try simp only [Act.put, List.setIfInBounds_toArray, List.set_cons_zero, List.set_cons_succ]
         refine' hold_sole ?_ ?_ (fun J hJ => ?_)
         rotate_left 1
         · simp only [List.getElem?_toArray, List.getElem?_cons_zero, List.getElem?_cons_succ]; exact rfl
         · exact rfl
         refine wp_alloc_z 38 K.zero259 K.zeroRefCore rfl ?_
         obtain ⟨wa7, hwa7⟩ : ∃ wa7, wa7 = wv.alloc (.cells K.zero259 38) := ⟨_, rfl⟩
         rw [← hwa7]
         have hba7 : Below wv.heap.size wv wa7 := by rw [hwa7]; exact K.alloc_below _ _
         have hBa7 : Below W4.heap.size W4 wa7 := hBv.trans (hba7.mono hBv.size)
         have hBa7c := K.refc_alloc hBvc (.cells K.zero259 38)
         rw [← hwa7] at hBa7c
         have hBa7v := refv_alloc h0v (.cells K.zero259 38)
         rw [← hwa7] at hBa7v
         have hBa7x8 := hBvx8.below hba7 hBvx8.lt
         have hx7 : K.RBox wa7 wv.heap.size K.zero259 := by rw [hwa7]; exact K.rbox_start _ _
         obtain ⟨b7, hb7⟩ : ∃ b7, b7 = wv.heap.size := ⟨_, rfl⟩
         rw [← hb7] at hx7 hBa7c hBa7v
         rw [← hb7]
         have hle7 : W4.heap.size ≤ b7 := by rw [hb7]; exact hBv.size
         have hne : b7 ≠ b8 := by have := hBvx8.lt; omega
         refine hJ _ _ hBa7 ?_
         clear hJ J hwa7 hba7 hb7
         try simp only [Act.put, List.setIfInBounds_toArray, List.set_cons_zero, List.set_cons_succ]
         refine' hold_sole ?_ ?_ (fun J hJ => ?_)
         rotate_left 1
         · simp only [List.getElem?_toArray, List.getElem?_cons_zero, List.getElem?_cons_succ]; exact rfl
         · exact rfl
         refine K.wp_store_rc _ _ rfl b7 _ rs.toArray rfl rfl hx7 (by rw [List.size_toArray]; exact K.refIn_len hBa7c) K.zero259_size (K.one_all (K.ref_one_cells hBa7c)) ?_
         intro ws7 hn7 ho7
         have hBs7 : Below W4.heap.size W4 ws7 := ho7.below hBa7 hle7
         have hBs7c := K.refc_only hBa7c ho7 (by simp)
         have hBs7v := refv_only hBa7v ho7 (by simp)
         have hs8 : RBox ws7 b8 zero3 := (ho7.block _ hne.symm).trans hBa7x8
         refine hJ _ _ hBs7 ?_
         clear hJ J
         try simp only [Act.put]
         refine' hold_sole ?_ ?_ (fun J hJ => ?_)
         rotate_left 1
         · simp only [List.getElem?_toArray, List.getElem?_cons_zero, List.getElem?_cons_succ]; exact rfl
         · exact rfl
         refine wp_store_rv _ _ rfl b8 _ zs.toArray rfl rfl hs8 (by rw [List.size_toArray]; exact refIn_len hBs7v) rfl (K.one_all (ref_one_cells hBs7v)) ?_
         intro ws8 hn8 ho8
         have hBs8 : Below W4.heap.size W4 ws8 := ho8.below hBs7 hle8
         have hBs8c := K.refc_only hBs7c ho8 (by simp)
         have hBs8v := refv_only hBs7v ho8 (by simp)
         have hs7 : K.RBox ws8 b7 rs.toArray := (ho8.block _ hne).trans hn7
         refine hJ _ _ hBs8 ?_
         clear hJ J
         try simp only [Act.put]
         refine hold_done ?_
         refine hMet _ _ (Met.intro (hR _ _ ?_))
         exact ⟨_, _, _, _, _, _, ⟨_, rfl, b7, b8, rs, zs, rfl, rfl, K.refc_in hs7 (K.refIn_len hBs8c), hBs8c.ref, refv_in hn8 (refIn_len hBs8v), hBs8v.ref, hBs8⟩, rfl⟩

       · refine' hold_step ?_ ?_ (fun J hJ => ?_)
         rotate_left 1
         · simp only [List.getElem?_toArray, List.getElem?_cons_zero, List.getElem?_cons_succ]; exact rfl
         · exact rfl
         refine wp_alloc_z 38 K.zero259 K.zeroRefCore rfl ?_
         obtain ⟨wa7, hwa7⟩ : ∃ wa7, wa7 = wa8.alloc (.cells K.zero259 38) := ⟨_, rfl⟩
         rw [← hwa7]
         have hba7 : Below wa8.heap.size wa8 wa7 := by rw [hwa7]; exact K.alloc_below _ _
         have hBa7 : Below W4.heap.size W4 wa7 := hBa8.trans (hba7.mono hBa8.size)
         have hBa7c := K.refc_alloc hBa8c (.cells K.zero259 38)
         rw [← hwa7] at hBa7c
         have hBa7x8 := hx8.below hba7 hx8.lt
         have hx7 : K.RBox wa7 wa8.heap.size K.zero259 := by rw [hwa7]; exact K.rbox_start _ _
         obtain ⟨b7, hb7⟩ : ∃ b7, b7 = wa8.heap.size := ⟨_, rfl⟩
         rw [← hb7] at hx7 hBa7c
         rw [← hb7]
         have hle7 : W4.heap.size ≤ b7 := by rw [hb7]; exact hBa8.size
         have hne : b7 ≠ b8 := by have := hx8.lt; omega
         refine hJ _ _ hBa7 ?_
         clear hJ J hwa7 hba7 hb7
         try simp only [Act.put, List.setIfInBounds_toArray, List.set_cons_zero, List.set_cons_succ]
         refine' hold_sole ?_ ?_ (fun J hJ => ?_)
         rotate_left 1
         · simp only [List.getElem?_toArray, List.getElem?_cons_zero, List.getElem?_cons_succ]; exact rfl
         · exact rfl
         go_simp
         refine (lawVal_any 40 v _ _ Hslv.out (HAv.out _ (Hb4.out.trans (hBa7.mono Hb4.out.size)))).mono ?_
         rintro e wv ⟨zs, rfl, hin, hb'⟩
         have h0v := refv_start hin [b7, b8] (fun b hb => by simp only [List.mem_cons, List.not_mem_nil, or_false] at hb; rcases hb with rfl | rfl; exact hx7.lt; exact hBa7x8.lt)
         have hBv : Below W4.heap.size W4 wv := hBa7.trans (hb'.mono hBa7.size)
         have hBvc := K.refc_later hBa7c hb'
         have hBvx7 := hx7.below hb' hx7.lt
         have hBvx8 := hBa7x8.below hb' hBa7x8.lt
         refine hJ _ _ hBv ?_
         clear hJ J hin hb'
         try simp only [Act.put, List.setIfInBounds_toArray, List.set_cons_zero, List.set_cons_succ]
         refine' hold_sole ?_ ?_ (fun J hJ => ?_)
         rotate_left 1
         · simp only [List.getElem?_toArray, List.getElem?_cons_zero, List.getElem?_cons_succ]; exact rfl
         · exact rfl
         refine K.wp_store_rc _ _ rfl b7 _ rs.toArray rfl rfl hBvx7 (by rw [List.size_toArray]; exact K.refIn_len hBvc) K.zero259_size (K.one_all (K.ref_one_cells hBvc)) ?_
         intro ws7 hn7 ho7
         have hBs7 : Below W4.heap.size W4 ws7 := ho7.below hBv hle7
         have hBs7c := K.refc_only hBvc ho7 (by simp)
         have hBs7v := refv_only h0v ho7 (by simp)
         have hs8 : RBox ws7 b8 zero3 := (ho7.block _ hne.symm).trans hBvx8
         refine hJ _ _ hBs7 ?_
         clear hJ J
         try simp only [Act.put]
         refine' hold_sole ?_ ?_ (fun J hJ => ?_)
         rotate_left 1
         · simp only [List.getElem?_toArray, List.getElem?_cons_zero, List.getElem?_cons_succ]; exact rfl
         · exact rfl
         refine wp_store_rv _ _ rfl b8 _ zs.toArray rfl rfl hs8 (by rw [List.size_toArray]; exact refIn_len hBs7v) rfl (K.one_all (ref_one_cells hBs7v)) ?_
         intro ws8 hn8 ho8
         have hBs8 : Below W4.heap.size W4 ws8 := ho8.below hBs7 hle8
         have hBs8c := K.refc_only hBs7c ho8 (by simp)
         have hBs8v := refv_only hBs7v ho8 (by simp)
         have hs7 : K.RBox ws8 b7 rs.toArray := (ho8.block _ hne).trans hn7
         refine hJ _ _ hBs8 ?_
         clear hJ J
         try simp only [Act.put]
         refine hold_done ?_
         refine hMet _ _ (Met.intro (hR _ _ ?_))
         exact ⟨_, _, _, _, _, _, ⟨_, rfl, b7, b8, rs, zs, rfl, rfl, K.refc_in hs7 (K.refIn_len hBs8c), hBs8c.ref, refv_in hn8 (refIn_len hBs8v), hBs8v.ref, hBs8⟩, rfl⟩



   · refine' hold_step ?_ ?_ (fun J hJ => ?_)
     rotate_left 1
     · simp only [List.getElem?_toArray, List.getElem?_cons_zero, List.getElem?_cons_succ]; exact rfl
     · exact rfl
     refine wp_alloc_z 38 K.zero259 K.zeroRefCore rfl ?_
     obtain ⟨wa7, hwa7⟩ : ∃ wa7, wa7 = wd.alloc (.cells K.zero259 38) := ⟨_, rfl⟩
     rw [← hwa7]
     have hba7 : Below wd.heap.size wd wa7 := by rw [hwa7]; exact K.alloc_below _ _
     have hBa7 : Below W4.heap.size W4 wa7 := hBd.trans (hba7.mono hBd.size)
     have hx7 : K.RBox wa7 wd.heap.size K.zero259 := by rw [hwa7]; exact K.rbox_start _ _
     obtain ⟨b7, hb7⟩ : ∃ b7, b7 = wd.heap.size := ⟨_, rfl⟩
     rw [← hb7] at hx7
     rw [← hb7]
     have hle7 : W4.heap.size ≤ b7 := by rw [hb7]; exact hBd.size
     refine hJ _ _ hBa7 ?_
     clear hJ J hwa7 hba7 hb7
     try simp only [Act.put, List.setIfInBounds_toArray, List.set_cons_zero, List.set_cons_succ]
     refine hold_fork ?_ ?_
     · refine' hold_step ?_ ?_ (fun J hJ => ?_)
       rotate_left 1
       · simp only [List.getElem?_toArray, List.getElem?_cons_zero, List.getElem?_cons_succ]; exact rfl
       · exact rfl
       go_simp
       refine (K.lawCore_any 100 x _ _ Hslc.out (HAx.out _ (Hb4.out.trans (hBa7.mono Hb4.out.size)))).mono ?_
       rintro e wc ⟨rs, rfl, hin, hb'⟩
       have h0c := K.refc_start hin [b7] (fun b hb => by simp only [List.mem_cons, List.not_mem_nil, or_false] at hb; subst hb; exact hx7.lt)
       have hBc : Below W4.heap.size W4 wc := hBa7.trans (hb'.mono hBa7.size)
       have hBcx7 := hx7.below hb' hx7.lt
       refine hJ _ _ hBc ?_
       clear hJ J hin hb'
       try simp only [Act.put, List.setIfInBounds_toArray, List.set_cons_zero, List.set_cons_succ]
       refine hold_fork ?_ ?_
       · refine' hold_step ?_ ?_ (fun J hJ => ?_)
         rotate_left 1
         · simp only [List.getElem?_toArray, List.getElem?_cons_zero, List.getElem?_cons_succ]; exact rfl
         · exact rfl
         go_simp
         refine (lawVal_any 40 v _ _ Hslv.out (HAv.out _ (Hb4.out.trans (hBc.mono Hb4.out.size)))).mono ?_
         rintro e wv ⟨zs, rfl, hin, hb'⟩
         have h0v := refv_start hin [b7] (fun b hb => by simp only [List.mem_cons, List.not_mem_nil, or_false] at hb; subst hb; exact hBcx7.lt)
         have hBv : Below W4.heap.size W4 wv := hBc.trans (hb'.mono hBc.size)
         have hBvc := K.refc_later h0c hb'
         have hBvx7 := hBcx7.below hb' hBcx7.lt
         refine hJ _ _ hBv ?_
         clear hJ J hin hb'
         try simp only [Act.put, List.setIfInBounds_toArray, List.set_cons_zero, List.set_cons_succ]
         refine' hold_sole ?_ ?_ (fun J hJ => ?_)
         rotate_left 1
         · simp only [List.getElem?_toArray, List.getElem?_cons_zero, List.getElem?_cons_succ]; exact rfl
         · exact rfl
         refine wp_alloc_z 42 zero3 zeroRefVal rfl ?_
         obtain ⟨wa8, hwa8⟩ : ∃ wa8, wa8 = wv.alloc (.cells zero3 42) := ⟨_, rfl⟩
         rw [← hwa8]
         have hba8 : Below wv.heap.size wv wa8 := by rw [hwa8]; exact K.alloc_below _ _
         have hBa8 : Below W4.heap.size W4 wa8 := hBv.trans (hba8.mono hBv.size)
         have hBa8c := K.refc_alloc hBvc (.cells zero3 42)
         rw [← hwa8] at hBa8c
         have hBa8v := refv_alloc h0v (.cells zero3 42)
         rw [← hwa8] at hBa8v
         have hBa8x7 := hBvx7.below hba8 hBvx7.lt
         have hx8 : RBox wa8 wv.heap.size zero3 := by rw [hwa8]; exact rbox_start _ _
         obtain ⟨b8, hb8⟩ : ∃ b8, b8 = wv.heap.size := ⟨_, rfl⟩
         rw [← hb8] at hx8 hBa8c hBa8v
         rw [← hb8]
         have hle8 : W4.heap.size ≤ b8 := by rw [hb8]; exact hBv.size
         have hne : b7 ≠ b8 := by have := hBvx7.lt; omega
         refine hJ _ _ hBa8 ?_
         clear hJ J hwa8 hba8 hb8
         try simp only [Act.put, List.setIfInBounds_toArray, List.set_cons_zero, List.set_cons_succ]
         refine' hold_sole ?_ ?_ (fun J hJ => ?_)
         rotate_left 1
         · simp only [List.getElem?_toArray, List.getElem?_cons_zero, List.getElem?_cons_succ]; exact rfl
         · exact rfl
         refine K.wp_store_rc _ _ rfl b7 _ rs.toArray rfl rfl hBa8x7 (by rw [List.size_toArray]; exact K.refIn_len hBa8c) K.zero259_size (K.one_all (K.ref_one_cells hBa8c)) ?_
         intro ws7 hn7 ho7
         have hBs7 : Below W4.heap.size W4 ws7 := ho7.below hBa8 hle7
         have hBs7c := K.refc_only hBa8c ho7 (by simp)
         have hBs7v := refv_only hBa8v ho7 (by simp)
         have hs8 : RBox ws7 b8 zero3 := (ho7.block _ hne.symm).trans hx8
         refine hJ _ _ hBs7 ?_
         clear hJ J
         try simp only [Act.put]
         refine' hold_sole ?_ ?_ (fun J hJ => ?_)
         rotate_left 1
         · simp only [List.getElem?_toArray, List.getElem?_cons_zero, List.getElem?_cons_succ]; exact rfl
         · exact rfl
         refine wp_store_rv _ _ rfl b8 _ zs.toArray rfl rfl hs8 (by rw [List.size_toArray]; exact refIn_len hBs7v) rfl (K.one_all (ref_one_cells hBs7v)) ?_
         intro ws8 hn8 ho8
         have hBs8 : Below W4.heap.size W4 ws8 := ho8.below hBs7 hle8
         have hBs8c := K.refc_only hBs7c ho8 (by simp)
         have hBs8v := refv_only hBs7v ho8 (by simp)
         have hs7 : K.RBox ws8 b7 rs.toArray := (ho8.block _ hne).trans hn7
         refine hJ _ _ hBs8 ?_
         clear hJ J
         try simp only [Act.put]
         refine hold_done ?_
         refine hMet _ _ (Met.intro (hR _ _ ?_))
         exact ⟨_, _, _, _, _, _, ⟨_, rfl, b7, b8, rs, zs, rfl, rfl, K.refc_in hs7 (K.refIn_len hBs8c), hBs8c.ref, refv_in hn8 (refIn_len hBs8v), hBs8v.ref, hBs8⟩, rfl⟩

       · refine' hold_step ?_ ?_ (fun J hJ => ?_)
         rotate_left 1
         · simp only [List.getElem?_toArray, List.getElem?_cons_zero, List.getElem?_cons_succ]; exact rfl
         · exact rfl
         refine wp_alloc_z 42 zero3 zeroRefVal rfl ?_
         obtain ⟨wa8, hwa8⟩ : ∃ wa8, wa8 = wc.alloc (.cells zero3 42) := ⟨_, rfl⟩
         rw [← hwa8]
         have hba8 : Below wc.heap.size wc wa8 := by rw [hwa8]; exact K.alloc_below _ _
         have hBa8 : Below W4.heap.size W4 wa8 := hBc.trans (hba8.mono hBc.size)
         have hBa8c := K.refc_alloc h0c (.cells zero3 42)
         rw [← hwa8] at hBa8c
         have hBa8x7 := hBcx7.below hba8 hBcx7.lt
         have hx8 : RBox wa8 wc.heap.size zero3 := by rw [hwa8]; exact rbox_start _ _
         obtain ⟨b8, hb8⟩ : ∃ b8, b8 = wc.heap.size := ⟨_, rfl⟩
         rw [← hb8] at hx8 hBa8c
         rw [← hb8]
         have hle8 : W4.heap.size ≤ b8 := by rw [hb8]; exact hBc.size
         have hne : b7 ≠ b8 := by have := hBcx7.lt; omega
         refine hJ _ _ hBa8 ?_
         clear hJ J hwa8 hba8 hb8
         try simp only [Act.put, List.setIfInBounds_toArray, List.set_cons_zero, List.set_cons_succ]
         refine' hold_sole ?_ ?_ (fun J hJ => ?_)
         rotate_left 1
         · simp only [List.getElem?_toArray, List.getElem?_cons_zero, List.getElem?_cons_succ]; exact rfl
         · exact rfl
         go_simp
         refine (lawVal_any 40 v _ _ Hslv.out (HAv.out _ (Hb4.out.trans (hBa8.mono Hb4.out.size)))).mono ?_
         rintro e wv ⟨zs, rfl, hin, hb'⟩
         have h0v := refv_start hin [b8, b7] (fun b hb => by simp only [List.mem_cons, List.not_mem_nil, or_false] at hb; rcases hb with rfl | rfl; exact hx8.lt; exact hBa8x7.lt)
         have hBv : Below W4.heap.size W4 wv := hBa8.trans (hb'.mono hBa8.size)
         have hBvc := K.refc_later hBa8c hb'
         have hBvx7 := hBa8x7.below hb' hBa8x7.lt
         have hBvx8 := hx8.below hb' hx8.lt
         refine hJ _ _ hBv ?_
         clear hJ J hin hb'
         try simp only [Act.put, List.setIfInBounds_toArray, List.set_cons_zero, List.set_cons_succ]
         refine' hold_sole ?_ ?_ (fun J hJ => ?_)
         rotate_left 1
         · simp only [List.getElem?_toArray, List.getElem?_cons_zero, List.getElem?_cons_succ]; exact rfl
         · exact rfl
         refine K.wp_store_rc _ _ rfl b7 _ rs.toArray rfl rfl hBvx7 (by rw [List.size_toArray]; exact K.refIn_len hBvc) K.zero259_size (K.one_all (K.ref_one_cells hBvc)) ?_
         intro ws7 hn7 ho7
         have hBs7 : Below W4.heap.size W4 ws7 := ho7.below hBv hle7
         have hBs7c := K.refc_only hBvc ho7 (by simp)
         have hBs7v := refv_only h0v ho7 (by simp)
         have hs8 : RBox ws7 b8 zero3 := (ho7.block _ hne.symm).trans hBvx8
         refine hJ _ _ hBs7 ?_
         clear hJ J
         try simp only [Act.put]
         refine' hold_sole ?_ ?_ (fun J hJ => ?_)
         rotate_left 1
         · simp only [List.getElem?_toArray, List.getElem?_cons_zero, List.getElem?_cons_succ]; exact rfl
         · exact rfl
         refine wp_store_rv _ _ rfl b8 _ zs.toArray rfl rfl hs8 (by rw [List.size_toArray]; exact refIn_len hBs7v) rfl (K.one_all (ref_one_cells hBs7v)) ?_
         intro ws8 hn8 ho8
         have hBs8 : Below W4.heap.size W4 ws8 := ho8.below hBs7 hle8
         have hBs8c := K.refc_only hBs7c ho8 (by simp)
         have hBs8v := refv_only hBs7v ho8 (by simp)
         have hs7 : K.RBox ws8 b7 rs.toArray := (ho8.block _ hne).trans hn7
         refine hJ _ _ hBs8 ?_
         clear hJ J
         try simp only [Act.put]
         refine hold_done ?_
         refine hMet _ _ (Met.intro (hR _ _ ?_))
         exact ⟨_, _, _, _, _, _, ⟨_, rfl, b7, b8, rs, zs, rfl, rfl, K.refc_in hs7 (K.refIn_len hBs8c), hBs8c.ref, refv_in hn8 (refIn_len hBs8v), hBs8v.ref, hBs8⟩, rfl⟩


     · refine' hold_step ?_ ?_ (fun J hJ => ?_)
       rotate_left 1
       · simp only [List.getElem?_toArray, List.getElem?_cons_zero, List.getElem?_cons_succ]; exact rfl
       · exact rfl
       refine wp_alloc_z 42 zero3 zeroRefVal rfl ?_
       obtain ⟨wa8, hwa8⟩ : ∃ wa8, wa8 = wa7.alloc (.cells zero3 42) := ⟨_, rfl⟩
       rw [← hwa8]
       have hba8 : Below wa7.heap.size wa7 wa8 := by rw [hwa8]; exact K.alloc_below _ _
       have hBa8 : Below W4.heap.size W4 wa8 := hBa7.trans (hba8.mono hBa7.size)
       have hBa8x7 := hx7.below hba8 hx7.lt
       have hx8 : RBox wa8 wa7.heap.size zero3 := by rw [hwa8]; exact rbox_start _ _
       obtain ⟨b8, hb8⟩ : ∃ b8, b8 = wa7.heap.size := ⟨_, rfl⟩
       rw [← hb8] at hx8
       rw [← hb8]
       have hle8 : W4.heap.size ≤ b8 := by rw [hb8]; exact hBa7.size
       have hne : b7 ≠ b8 := by have := hx7.lt; omega
       refine hJ _ _ hBa8 ?_
       clear hJ J hwa8 hba8 hb8
       try simp only [Act.put, List.setIfInBounds_toArray, List.set_cons_zero, List.set_cons_succ]
       refine' hold_sole ?_ ?_ (fun J hJ => ?_)
       rotate_left 1
       · simp only [List.getElem?_toArray, List.getElem?_cons_zero, List.getElem?_cons_succ]; exact rfl
       · exact rfl
       go_simp
       refine (K.lawCore_any 100 x _ _ Hslc.out (HAx.out _ (Hb4.out.trans (hBa8.mono Hb4.out.size)))).mono ?_
       rintro e wc ⟨rs, rfl, hin, hb'⟩
       have h0c := K.refc_start hin [b8, b7] (fun b hb => by simp only [List.mem_cons, List.not_mem_nil, or_false] at hb; rcases hb with rfl | rfl; exact hx8.lt; exact hBa8x7.lt)
       have hBc : Below W4.heap.size W4 wc := hBa8.trans (hb'.mono hBa8.size)
       have hBcx7 := hBa8x7.below hb' hBa8x7.lt
       have hBcx8 := hx8.below hb' hx8.lt
       refine hJ _ _ hBc ?_
       clear hJ J hin hb'
       try simp only [Act.put, List.setIfInBounds_toArray, List.set_cons_zero, List.set_cons_succ]
       refine' hold_sole ?_ ?_ (fun J hJ => ?_)
       rotate_left 1
       · simp only [List.getElem?_toArray, List.getElem?_cons_zero, List.getElem?_cons_succ]; exact rfl
       · exact rfl
       go_simp
       refine (lawVal_any 40 v _ _ Hslv.out (HAv.out _ (Hb4.out.trans (hBc.mono Hb4.out.size)))).mono ?_
       rintro e wv ⟨zs, rfl, hin, hb'⟩
       have h0v := refv_start hin [b8, b7] (fun b hb => by simp only [List.mem_cons, List.not_mem_nil, or_false] at hb; rcases hb with rfl | rfl; exact hBcx8.lt; exact hBcx7.lt)
       have hBv : Below W4.heap.size W4 wv := hBc.trans (hb'.mono hBc.size)
       have hBvc := K.refc_later h0c hb'
       have hBvx7 := hBcx7.below hb' hBcx7.lt
       have hBvx8 := hBcx8.below hb' hBcx8.lt
       refine hJ _ _ hBv ?_
       clear hJ J hin hb'
       try simp only [Act.put, List.setIfInBounds_toArray, List.set_cons_zero, List.set_cons_succ]
       refine' hold_sole ?_ ?_ (fun J hJ => ?_)
       rotate_left 1
       · simp only [List.getElem?_toArray, List.getElem?_cons_zero, List.getElem?_cons_succ]; exact rfl
       · exact rfl
       refine K.wp_store_rc _ _ rfl b7 _ rs.toArray rfl rfl hBvx7 (by rw [List.size_toArray]; exact K.refIn_len hBvc) K.zero259_size (K.one_all (K.ref_one_cells hBvc)) ?_
       intro ws7 hn7 ho7
       have hBs7 : Below W4.heap.size W4 ws7 := ho7.below hBv hle7
       have hBs7c := K.refc_only hBvc ho7 (by simp)
       have hBs7v := refv_only h0v ho7 (by simp)
       have hs8 : RBox ws7 b8 zero3 := (ho7.block _ hne.symm).trans hBvx8
       refine hJ _ _ hBs7 ?_
       clear hJ J
       try simp only [Act.put]
       refine' hold_sole ?_ ?_ (fun J hJ => ?_)
       rotate_left 1
       · simp only [List.getElem?_toArray, List.getElem?_cons_zero, List.getElem?_cons_succ]; exact rfl
       · exact rfl
       refine wp_store_rv _ _ rfl b8 _ zs.toArray rfl rfl hs8 (by rw [List.size_toArray]; exact refIn_len hBs7v) rfl (K.one_all (ref_one_cells hBs7v)) ?_
       intro ws8 hn8 ho8
       have hBs8 : Below W4.heap.size W4 ws8 := ho8.below hBs7 hle8
       have hBs8c := K.refc_only hBs7c ho8 (by simp)
       have hBs8v := refv_only hBs7v ho8 (by simp)
       have hs7 : K.RBox ws8 b7 rs.toArray := (ho8.block _ hne).trans hn7
       refine hJ _ _ hBs8 ?_
       clear hJ J
       try simp only [Act.put]
       refine hold_done ?_
       refine hMet _ _ (Met.intro (hR _ _ ?_))
       exact ⟨_, _, _, _, _, _, ⟨_, rfl, b7, b8, rs, zs, rfl, rfl, K.refc_in hs7 (K.refIn_len hBs8c), hBs8c.ref, refv_in hn8 (refIn_len hBs8v), hBs8v.ref, hBs8⟩, rfl⟩


   · refine' hold_step ?_ ?_ (fun J hJ => ?_)
     rotate_left 1
     · simp only [List.getElem?_toArray, List.getElem?_cons_zero, List.getElem?_cons_succ]; exact rfl
     · exact rfl
     refine wp_alloc_z 42 zero3 zeroRefVal rfl ?_
     obtain ⟨wa8, hwa8⟩ : ∃ wa8, wa8 = wd.alloc (.cells zero3 42) := ⟨_, rfl⟩
     rw [← hwa8]
     have hba8 : Below wd.heap.size wd wa8 := by rw [hwa8]; exact K.alloc_below _ _
     have hBa8 : Below W4.heap.size W4 wa8 := hBd.trans (hba8.mono hBd.size)
     have hx8 : RBox wa8 wd.heap.size zero3 := by rw [hwa8]; exact rbox_start _ _
     obtain ⟨b8, hb8⟩ : ∃ b8, b8 = wd.heap.size := ⟨_, rfl⟩
     rw [← hb8] at hx8
     rw [← hb8]
     have hle8 : W4.heap.size ≤ b8 := by rw [hb8]; exact hBd.size
     refine hJ _ _ hBa8 ?_
     clear hJ J hwa8 hba8 hb8
     try simp only [Act.put, List.setIfInBounds_toArray, List.set_cons_zero, List.set_cons_succ]
     refine hold_fork ?_ ?_
     · refine' hold_step ?_ ?_ (fun J hJ => ?_)
       rotate_left 1
       · simp only [List.getElem?_toArray, List.getElem?_cons_zero, List.getElem?_cons_succ]; exact rfl
       · exact rfl
       go_simp
       refine (K.lawCore_any 100 x _ _ Hslc.out (HAx.out _ (Hb4.out.trans (hBa8.mono Hb4.out.size)))).mono ?_
       rintro e wc ⟨rs, rfl, hin, hb'⟩
       have h0c := K.refc_start hin [b8] (fun b hb => by simp only [List.mem_cons, List.not_mem_nil, or_false] at hb; subst hb; exact hx8.lt)
       have hBc : Below W4.heap.size W4 wc := hBa8.trans (hb'.mono hBa8.size)
       have hBcx8 := hx8.below hb' hx8.lt
       refine hJ _ _ hBc ?_
       clear hJ J hin hb'
       try simp only [Act.put, List.setIfInBounds_toArray, List.set_cons_zero, List.set_cons_succ]
       refine hold_fork ?_ ?_
       · refine' hold_step ?_ ?_ (fun J hJ => ?_)
         rotate_left 1
         · simp only [List.getElem?_toArray, List.getElem?_cons_zero, List.getElem?_cons_succ]; exact rfl
         · exact rfl
         go_simp
         refine (lawVal_any 40 v _ _ Hslv.out (HAv.out _ (Hb4.out.trans (hBc.mono Hb4.out.size)))).mono ?_
         rintro e wv ⟨zs, rfl, hin, hb'⟩
         have h0v := refv_start hin [b8] (fun b hb => by simp only [List.mem_cons, List.not_mem_nil, or_false] at hb; subst hb; exact hBcx8.lt)
         have hBv : Below W4.heap.size W4 wv := hBc.trans (hb'.mono hBc.size)
         have hBvc := K.refc_later h0c hb'
         have hBvx8 := hBcx8.below hb' hBcx8.lt
         refine hJ _ _ hBv ?_
         clear hJ J hin hb'
         try simp only [Act.put, List.setIfInBounds_toArray, List.set_cons_zero, List.set_cons_succ]
         refine' hold_sole ?_ ?_ (fun J hJ => ?_)
         rotate_left 1
         · simp only [List.getElem?_toArray, List.getElem?_cons_zero, List.getElem?_cons_succ]; exact rfl
         · exact rfl
         refine wp_alloc_z 38 K.zero259 K.zeroRefCore rfl ?_
         obtain ⟨wa7, hwa7⟩ : ∃ wa7, wa7 = wv.alloc (.cells K.zero259 38) := ⟨_, rfl⟩
         rw [← hwa7]
         have hba7 : Below wv.heap.size wv wa7 := by rw [hwa7]; exact K.alloc_below _ _
         have hBa7 : Below W4.heap.size W4 wa7 := hBv.trans (hba7.mono hBv.size)
         have hBa7c := K.refc_alloc hBvc (.cells K.zero259 38)
         rw [← hwa7] at hBa7c
         have hBa7v := refv_alloc h0v (.cells K.zero259 38)
         rw [← hwa7] at hBa7v
         have hBa7x8 := hBvx8.below hba7 hBvx8.lt
         have hx7 : K.RBox wa7 wv.heap.size K.zero259 := by rw [hwa7]; exact K.rbox_start _ _
         obtain ⟨b7, hb7⟩ : ∃ b7, b7 = wv.heap.size := ⟨_, rfl⟩
         rw [← hb7] at hx7 hBa7c hBa7v
         rw [← hb7]
         have hle7 : W4.heap.size ≤ b7 := by rw [hb7]; exact hBv.size
         have hne : b7 ≠ b8 := by have := hBvx8.lt; omega
         refine hJ _ _ hBa7 ?_
         clear hJ J hwa7 hba7 hb7
         try simp only [Act.put, List.setIfInBounds_toArray, List.set_cons_zero, List.set_cons_succ]
         refine' hold_sole ?_ ?_ (fun J hJ => ?_)
         rotate_left 1
         · simp only [List.getElem?_toArray, List.getElem?_cons_zero, List.getElem?_cons_succ]; exact rfl
         · exact rfl
         refine K.wp_store_rc _ _ rfl b7 _ rs.toArray rfl rfl hx7 (by rw [List.size_toArray]; exact K.refIn_len hBa7c) K.zero259_size (K.one_all (K.ref_one_cells hBa7c)) ?_
         intro ws7 hn7 ho7
         have hBs7 : Below W4.heap.size W4 ws7 := ho7.below hBa7 hle7
         have hBs7c := K.refc_only hBa7c ho7 (by simp)
         have hBs7v := refv_only hBa7v ho7 (by simp)
         have hs8 : RBox ws7 b8 zero3 := (ho7.block _ hne.symm).trans hBa7x8
         refine hJ _ _ hBs7 ?_
         clear hJ J
         try simp only [Act.put]
         refine' hold_sole ?_ ?_ (fun J hJ => ?_)
         rotate_left 1
         · simp only [List.getElem?_toArray, List.getElem?_cons_zero, List.getElem?_cons_succ]; exact rfl
         · exact rfl
         refine wp_store_rv _ _ rfl b8 _ zs.toArray rfl rfl hs8 (by rw [List.size_toArray]; exact refIn_len hBs7v) rfl (K.one_all (ref_one_cells hBs7v)) ?_
         intro ws8 hn8 ho8
         have hBs8 : Below W4.heap.size W4 ws8 := ho8.below hBs7 hle8
         have hBs8c := K.refc_only hBs7c ho8 (by simp)
         have hBs8v := refv_only hBs7v ho8 (by simp)
         have hs7 : K.RBox ws8 b7 rs.toArray := (ho8.block _ hne).trans hn7
         refine hJ _ _ hBs8 ?_
         clear hJ J
         try simp only [Act.put]
         refine hold_done ?_
         refine hMet _ _ (Met.intro (hR _ _ ?_))
         exact ⟨_, _, _, _, _, _, ⟨_, rfl, b7, b8, rs, zs, rfl, rfl, K.refc_in hs7 (K.refIn_len hBs8c), hBs8c.ref, refv_in hn8 (refIn_len hBs8v), hBs8v.ref, hBs8⟩, rfl⟩

       · refine' hold_step ?_ ?_ (fun J hJ => ?_)
         rotate_left 1
         · simp only [List.getElem?_toArray, List.getElem?_cons_zero, List.getElem?_cons_succ]; exact rfl
         · exact rfl
         refine wp_alloc_z 38 K.zero259 K.zeroRefCore rfl ?_
         obtain ⟨wa7, hwa7⟩ : ∃ wa7, wa7 = wc.alloc (.cells K.zero259 38) := ⟨_, rfl⟩
         rw [← hwa7]
         have hba7 : Below wc.heap.size wc wa7 := by rw [hwa7]; exact K.alloc_below _ _
         have hBa7 : Below W4.heap.size W4 wa7 := hBc.trans (hba7.mono hBc.size)
         have hBa7c := K.refc_alloc h0c (.cells K.zero259 38)
         rw [← hwa7] at hBa7c
         have hBa7x8 := hBcx8.below hba7 hBcx8.lt
         have hx7 : K.RBox wa7 wc.heap.size K.zero259 := by rw [hwa7]; exact K.rbox_start _ _
         obtain ⟨b7, hb7⟩ : ∃ b7, b7 = wc.heap.size := ⟨_, rfl⟩
         rw [← hb7] at hx7 hBa7c
         rw [← hb7]
         have hle7 : W4.heap.size ≤ b7 := by rw [hb7]; exact hBc.size
         have hne : b7 ≠ b8 := by have := hBcx8.lt; omega
         refine hJ _ _ hBa7 ?_
         clear hJ J hwa7 hba7 hb7
         try simp only [Act.put, List.setIfInBounds_toArray, List.set_cons_zero, List.set_cons_succ]
         refine' hold_sole ?_ ?_ (fun J hJ => ?_)
         rotate_left 1
         · simp only [List.getElem?_toArray, List.getElem?_cons_zero, List.getElem?_cons_succ]; exact rfl
         · exact rfl
         go_simp
         refine (lawVal_any 40 v _ _ Hslv.out (HAv.out _ (Hb4.out.trans (hBa7.mono Hb4.out.size)))).mono ?_
         rintro e wv ⟨zs, rfl, hin, hb'⟩
         have h0v := refv_start hin [b7, b8] (fun b hb => by simp only [List.mem_cons, List.not_mem_nil, or_false] at hb; rcases hb with rfl | rfl; exact hx7.lt; exact hBa7x8.lt)
         have hBv : Below W4.heap.size W4 wv := hBa7.trans (hb'.mono hBa7.size)
         have hBvc := K.refc_later hBa7c hb'
         have hBvx7 := hx7.below hb' hx7.lt
         have hBvx8 := hBa7x8.below hb' hBa7x8.lt
         refine hJ _ _ hBv ?_
         clear hJ J hin hb'
         try simp only [Act.put, List.setIfInBounds_toArray, List.set_cons_zero, List.set_cons_succ]
         refine' hold_sole ?_ ?_ (fun J hJ => ?_)
         rotate_left 1
         · simp only [List.getElem?_toArray, List.getElem?_cons_zero, List.getElem?_cons_succ]; exact rfl
         · exact rfl
         refine K.wp_store_rc _ _ rfl b7 _ rs.toArray rfl rfl hBvx7 (by rw [List.size_toArray]; exact K.refIn_len hBvc) K.zero259_size (K.one_all (K.ref_one_cells hBvc)) ?_
         intro ws7 hn7 ho7
         have hBs7 : Below W4.heap.size W4 ws7 := ho7.below hBv hle7
         have hBs7c := K.refc_only hBvc ho7 (by simp)
         have hBs7v := refv_only h0v ho7 (by simp)
         have hs8 : RBox ws7 b8 zero3 := (ho7.block _ hne.symm).trans hBvx8
         refine hJ _ _ hBs7 ?_
         clear hJ J
         try simp only [Act.put]
         refine' hold_sole ?_ ?_ (fun J hJ => ?_)
         rotate_left 1
         · simp only [List.getElem?_toArray, List.getElem?_cons_zero, List.getElem?_cons_succ]; exact rfl
         · exact rfl
         refine wp_store_rv _ _ rfl b8 _ zs.toArray rfl rfl hs8 (by rw [List.size_toArray]; exact refIn_len hBs7v) rfl (K.one_all (ref_one_cells hBs7v)) ?_
         intro ws8 hn8 ho8
         have hBs8 : Below W4.heap.size W4 ws8 := ho8.below hBs7 hle8
         have hBs8c := K.refc_only hBs7c ho8 (by simp)
         have hBs8v := refv_only hBs7v ho8 (by simp)
         have hs7 : K.RBox ws8 b7 rs.toArray := (ho8.block _ hne).trans hn7
         refine hJ _ _ hBs8 ?_
         clear hJ J
         try simp only [Act.put]
         refine hold_done ?_
         refine hMet _ _ (Met.intro (hR _ _ ?_))
         exact ⟨_, _, _, _, _, _, ⟨_, rfl, b7, b8, rs, zs, rfl, rfl, K.refc_in hs7 (K.refIn_len hBs8c), hBs8c.ref, refv_in hn8 (refIn_len hBs8v), hBs8v.ref, hBs8⟩, rfl⟩


     · refine' hold_step ?_ ?_ (fun J hJ => ?_)
       rotate_left 1
       · simp only [List.getElem?_toArray, List.getElem?_cons_zero, List.getElem?_cons_succ]; exact rfl
       · exact rfl
       refine wp_alloc_z 38 K.zero259 K.zeroRefCore rfl ?_
       obtain ⟨wa7, hwa7⟩ : ∃ wa7, wa7 = wa8.alloc (.cells K.zero259 38) := ⟨_, rfl⟩
       rw [← hwa7]
       have hba7 : Below wa8.heap.size wa8 wa7 := by rw [hwa7]; exact K.alloc_below _ _
       have hBa7 : Below W4.heap.size W4 wa7 := hBa8.trans (hba7.mono hBa8.size)
       have hBa7x8 := hx8.below hba7 hx8.lt
       have hx7 : K.RBox wa7 wa8.heap.size K.zero259 := by rw [hwa7]; exact K.rbox_start _ _
       obtain ⟨b7, hb7⟩ : ∃ b7, b7 = wa8.heap.size := ⟨_, rfl⟩
       rw [← hb7] at hx7
       rw [← hb7]
       have hle7 : W4.heap.size ≤ b7 := by rw [hb7]; exact hBa8.size
       have hne : b7 ≠ b8 := by have := hx8.lt; omega
       refine hJ _ _ hBa7 ?_
       clear hJ J hwa7 hba7 hb7
       try simp only [Act.put, List.setIfInBounds_toArray, List.set_cons_zero, List.set_cons_succ]
       refine' hold_sole ?_ ?_ (fun J hJ => ?_)
       rotate_left 1
       · simp only [List.getElem?_toArray, List.getElem?_cons_zero, List.getElem?_cons_succ]; exact rfl
       · exact rfl
       go_simp
       refine (K.lawCore_any 100 x _ _ Hslc.out (HAx.out _ (Hb4.out.trans (hBa7.mono Hb4.out.size)))).mono ?_
       rintro e wc ⟨rs, rfl, hin, hb'⟩
       have h0c := K.refc_start hin [b7, b8] (fun b hb => by simp only [List.mem_cons, List.not_mem_nil, or_false] at hb; rcases hb with rfl | rfl; exact hx7.lt; exact hBa7x8.lt)
       have hBc : Below W4.heap.size W4 wc := hBa7.trans (hb'.mono hBa7.size)
       have hBcx7 := hx7.below hb' hx7.lt
       have hBcx8 := hBa7x8.below hb' hBa7x8.lt
       refine hJ _ _ hBc ?_
       clear hJ J hin hb'
       try simp only [Act.put, List.setIfInBounds_toArray, List.set_cons_zero, List.set_cons_succ]
       refine' hold_sole ?_ ?_ (fun J hJ => ?_)
       rotate_left 1
       · simp only [List.getElem?_toArray, List.getElem?_cons_zero, List.getElem?_cons_succ]; exact rfl
       · exact rfl
       go_simp
       refine (lawVal_any 40 v _ _ Hslv.out (HAv.out _ (Hb4.out.trans (hBc.mono Hb4.out.size)))).mono ?_
       rintro e wv ⟨zs, rfl, hin, hb'⟩
       have h0v := refv_start hin [b7, b8] (fun b hb => by simp only [List.mem_cons, List.not_mem_nil, or_false] at hb; rcases hb with rfl | rfl; exact hBcx7.lt; exact hBcx8.lt)
       have hBv : Below W4.heap.size W4 wv := hBc.trans (hb'.mono hBc.size)
       have hBvc := K.refc_later h0c hb'
       have hBvx7 := hBcx7.below hb' hBcx7.lt
       have hBvx8 := hBcx8.below hb' hBcx8.lt
       refine hJ _ _ hBv ?_
       clear hJ J hin hb'
       try simp only [Act.put, List.setIfInBounds_toArray, List.set_cons_zero, List.set_cons_succ]
       refine' hold_sole ?_ ?_ (fun J hJ => ?_)
       rotate_left 1
       · simp only [List.getElem?_toArray, List.getElem?_cons_zero, List.getElem?_cons_succ]; exact rfl
       · exact rfl
       refine K.wp_store_rc _ _ rfl b7 _ rs.toArray rfl rfl hBvx7 (by rw [List.size_toArray]; exact K.refIn_len hBvc) K.zero259_size (K.one_all (K.ref_one_cells hBvc)) ?_
       intro ws7 hn7 ho7
       have hBs7 : Below W4.heap.size W4 ws7 := ho7.below hBv hle7
       have hBs7c := K.refc_only hBvc ho7 (by simp)
       have hBs7v := refv_only h0v ho7 (by simp)
       have hs8 : RBox ws7 b8 zero3 := (ho7.block _ hne.symm).trans hBvx8
       refine hJ _ _ hBs7 ?_
       clear hJ J
       try simp only [Act.put]
       refine' hold_sole ?_ ?_ (fun J hJ => ?_)
       rotate_left 1
       · simp only [List.getElem?_toArray, List.getElem?_cons_zero, List.getElem?_cons_succ]; exact rfl
       · exact rfl
       refine wp_store_rv _ _ rfl b8 _ zs.toArray rfl rfl hs8 (by rw [List.size_toArray]; exact refIn_len hBs7v) rfl (K.one_all (ref_one_cells hBs7v)) ?_
       intro ws8 hn8 ho8
       have hBs8 : Below W4.heap.size W4 ws8 := ho8.below hBs7 hle8
       have hBs8c := K.refc_only hBs7c ho8 (by simp)
       have hBs8v := refv_only hBs7v ho8 (by simp)
       have hs7 : K.RBox ws8 b7 rs.toArray := (ho8.block _ hne).trans hn7
       refine hJ _ _ hBs8 ?_
       clear hJ J
       try simp only [Act.put]
       refine hold_done ?_
       refine hMet _ _ (Met.intro (hR _ _ ?_))
       exact ⟨_, _, _, _, _, _, ⟨_, rfl, b7, b8, rs, zs, rfl, rfl, K.refc_in hs7 (K.refIn_len hBs8c), hBs8c.ref, refv_in hn8 (refIn_len hBs8v), hBs8v.ref, hBs8⟩, rfl⟩



  case rest =>
   obtain ⟨W5, hW5, b7, b8, rs, zs, rfl, rfl, hr7, hx7, hr8, hv8, hb5⟩ := hcut
   subst hW5
   have H5 := Lib.hid (Hb4.out.trans (hb5.mono Hb4.out.size))
   have BX3 := Lib.hid (fun (w' : World) (h : Below W5.heap.size W5 w') => And.intro (HXx.out _ (H5.out.trans (h.mono H5.out.size))) (HAx.out _ (H5.out.trans (h.mono H5.out.size))))
   have BX4 := Lib.hid (fun (w' : World) (h : Below W5.heap.size W5 w') => And.intro (HXv.out _ (H5.out.trans (h.mono H5.out.size))) (HAv.out _ (H5.out.trans (h.mono H5.out.size))))
   have BX5 := Lib.hid (fun (w' : World) (h : Below W5.heap.size W5 w') => And.intro (HXu.out _ (H5.out.trans (h.mono H5.out.size))) (HAu.out _ (H5.out.trans (h.mono H5.out.size))))
   have RB7 := Lib.hid (fun (w' : World) (h : Below W5.heap.size W5 w') => And.intro (rc_later hr7 h) (K.Cr.ref_below h hx7))
   have RB8 := Lib.hid (fun (w' : World) (h : Below W5.heap.size W5 w') => And.intro (hr8.below hr8.lt h) (Vl.at_below h (Nat.le_refl _) _ _ hv8))
   have HB := Lib.hid (HbW.out.trans (H5.out.mono HbW.out.size))
   clear hr7 hx7 hr8 hv8 hb5
   go_wp2_with fail
   go_cut [6] from 25 to 81 (fun v wx => v = .bool true ∧ Below W5.heap.size W5 wx)
   case first =>
    rename_i J K' hR hMet
    refine wp_region_guards (factAt (vsF W5.heap.size x v u rs zs tf t1 g f b)) (W0 := W5) (by kernel_rfl) (by kernel_rfl) (by kernel_rfl) (Below.refl _ _) (fun i v w w' h hk => factAt_stable (vsF_stable _ _ _ _ _ _ _ _ _ _ _) i v w w' h hk) [7, 16, 25, 33, 40, 47] (by kernel_rfl) ?hgu ?hop ?hend
    case hgu =>
      intro j hj v w h
      simp only [List.mem_cons, List.not_mem_nil, or_false] at hj
      rcases hj with rfl | rfl | rfl | rfl | rfl | rfl
      · exact fact_get (P := isEq (.bool true)) rfl h
      · exact fact_get (P := isEq (.bool true)) rfl h
      · exact fact_get (P := isEq (.bool true)) rfl h
      · exact fact_get (P := isEq (.bool true)) rfl h
      · exact fact_get (P := isEq (.bool true)) rfl h
      · exact fact_get (P := isEq (.bool true)) rfl h
    case hop =>
      refine AllG.get0 ?_
      refine AllG.cons (k' := 1) rfl ?_ ?_
      · intro a' w' hB hk hin KK hK
        refine wp_load_coreK _ rfl w.heap.size 0 _ (eval_tmp (by rw [hk 3 (by kernel_rfl)]; rfl)) (BX3.out _ hB).1 ?_
        exact hK _ _ hB (KeepsC.of_below (Below.refl _ _)) (fact_put (P := isCore x) rfl ⟨_, rfl, (BX3.out _ hB).2⟩)
      refine AllG.cons (k' := 2) rfl ?_ ?_
      · intro a' w' hB hk hin KK hK
        refine wp_load_valK _ rfl (w.heap.size + 1) 0 _ (eval_tmp (by rw [hk 4 (by kernel_rfl)]; rfl)) (BX4.out _ hB).1 ?_
        exact hK _ _ hB (KeepsC.of_below (Below.refl _ _)) (fact_put (P := isVal v) rfl ⟨_, rfl, (BX4.out _ hB).2⟩)
      refine AllG.cons (k' := 3) rfl ?_ ?_
      · intro a' w' hB hk hin KK hK
        obtain ⟨v1, e1, q1⟩ := hin 0 _ 25 rfl rfl ⟨{ on := 0, ground := .data }, by simp, rfl, rfl⟩
        have q1 := fact_get (P := isCore x) rfl q1
        obtain ⟨zs1, r1, hat1⟩ := q1
        subst r1
        obtain ⟨v2, e2, q2⟩ := hin 1 _ 26 rfl rfl ⟨{ on := 1, ground := .data }, by simp, rfl, rfl⟩
        have q2 := fact_get (P := isVal v) rfl q2
        obtain ⟨zs2, r2, hat2⟩ := q2
        subst r2
        unfold Oper.wp execOp
        go_simp
        refine (good_any hat1 hat2).mono ?_
        rintro e wn ⟨rfl, hbn⟩
        exact hK _ _ (hB.trans (hbn.mono hB.size)) (KeepsC.of_below hbn) (fact_put (P := isEq (.bool g)) rfl (by show Value.bool _ = Value.bool _; rw [Hg.out]))
      refine AllG.cons (k' := 4) rfl ?_ ?_
      · intro a' w' hB hk hin KK hK
        refine wp_load_rc _ rfl b7 0 _ (eval_tmp (by rw [hk 7 (by kernel_rfl)]; rfl)) (RB7.out _ hB).1 ?_
        exact hK _ _ hB (KeepsC.of_below (Below.refl _ _)) (fact_put (P := isEq (.agg rs.toArray)) rfl rfl)
      refine AllG.cons (k' := 5) rfl ?_ ?_
      · intro a' w' hB hk hin KK hK
        refine wp_load_rv _ rfl b8 0 _ (eval_tmp (by rw [hk 8 (by kernel_rfl)]; rfl)) (RB8.out _ hB).1 ?_
        exact hK _ _ hB (KeepsC.of_below (Below.refl _ _)) (fact_put (P := isEq (.agg zs.toArray)) rfl rfl)
      refine AllG.cons (k' := 6) rfl ?_ ?_
      · intro a' w' hB hk hin KK hK
        obtain ⟨v3, e3, q3⟩ := hin 3 _ 28 rfl rfl ⟨{ on := 3, ground := .data }, by simp, rfl, rfl⟩
        have q3 := fact_get (P := isEq (.agg rs.toArray)) rfl q3
        have q3' : v3 = .agg rs.toArray := q3
        subst q3'
        obtain ⟨v4, e4, q4⟩ := hin 4 _ 29 rfl rfl ⟨{ on := 4, ground := .data }, by simp, rfl, rfl⟩
        have q4 := fact_get (P := isEq (.agg zs.toArray)) rfl q4
        have q4' : v4 = .agg zs.toArray := q4
        subst q4'
        unfold Oper.wp execOp
        go_simp
        refine (refGoodValue_walk x v rs zs w' (by have := Hsv.out; omega) (RB7.out _ hB).2 (RB8.out _ hB).2).mono ?_
        rintro e wn ⟨rfl, hbn⟩
        exact hK _ _ (hB.trans (hbn.mono hB.size)) (KeepsC.of_below hbn) (fact_put (P := isEq (.bool g)) rfl (by show Value.bool _ = Value.bool _; rw [Hg.out]))
      refine AllG.cons (k' := 7) rfl ?_ ?_
      · intro a' w' hB hk hin KK hK
        obtain ⟨v5, e5, q5⟩ := hin 2 _ 27 rfl rfl ⟨{ on := 2, ground := .data }, by simp, rfl, rfl⟩
        have q5 := fact_get (P := isEq (.bool g)) rfl q5
        have q5' : v5 = .bool g := q5
        subst q5'
        obtain ⟨v6, e6, q6⟩ := hin 5 _ 30 rfl rfl ⟨{ on := 5, ground := .data }, by simp, rfl, rfl⟩
        have q6 := fact_get (P := isEq (.bool g)) rfl q6
        have q6' : v6 = .bool g := q6
        subst q6'
        unfold Oper.wp execOp
        go_simp
        exact hK _ _ hB (KeepsC.of_below (Below.refl _ _)) (fact_put (P := isEq (.bool true)) rfl (by first | rfl | (simp; done)))
      refine AllG.cons (k' := 8) rfl ?_ ?_
      · intro a' w' hB hk hin KK hK
        obtain ⟨v7, e7, q7⟩ := hin 6 _ 31 rfl rfl ⟨{ on := 6, ground := .data }, by simp, rfl, rfl⟩
        have q7 := fact_get (P := isEq (.bool true)) rfl q7
        have q7' : v7 = .bool true := q7
        subst q7'
        unfold Oper.wp execOp
        go_simp
        exact hK _ _ hB (KeepsC.of_below (Below.refl _ _)) (fact_put (P := isEq (.bool true)) rfl rfl)
      refine AllG.cons (k' := 9) rfl ?_ ?_
      · intro a' w' hB hk hin KK hK
        refine wp_load_coreK _ rfl w.heap.size 0 _ (eval_tmp (by rw [hk 3 (by kernel_rfl)]; rfl)) (BX3.out _ hB).1 ?_
        exact hK _ _ hB (KeepsC.of_below (Below.refl _ _)) (fact_put (P := isCore x) rfl ⟨_, rfl, (BX3.out _ hB).2⟩)
      refine AllG.cons (k' := 10) rfl ?_ ?_
      · intro a' w' hB hk hin KK hK
        refine wp_load_valK _ rfl (w.heap.size + 1) 0 _ (eval_tmp (by rw [hk 4 (by kernel_rfl)]; rfl)) (BX4.out _ hB).1 ?_
        exact hK _ _ hB (KeepsC.of_below (Below.refl _ _)) (fact_put (P := isVal v) rfl ⟨_, rfl, (BX4.out _ hB).2⟩)
      refine AllG.cons (k' := 11) rfl ?_ ?_
      · intro a' w' hB hk hin KK hK
        obtain ⟨v8, e8, q8⟩ := hin 8 _ 33 rfl rfl ⟨{ on := 8, ground := .data }, by simp, rfl, rfl⟩
        have q8 := fact_get (P := isCore x) rfl q8
        obtain ⟨zs8, r8, hat8⟩ := q8
        subst r8
        obtain ⟨v9, e9, q9⟩ := hin 9 _ 34 rfl rfl ⟨{ on := 9, ground := .data }, by simp, rfl, rfl⟩
        have q9 := fact_get (P := isVal v) rfl q9
        obtain ⟨zs9, r9, hat9⟩ := q9
        subst r9
        unfold Oper.wp execOp
        go_simp
        refine (full_any hat8 hat9).mono ?_
        rintro e wn ⟨rfl, hbn⟩
        exact hK _ _ (hB.trans (hbn.mono hB.size)) (KeepsC.of_below hbn) (fact_put (P := isEq (.bool f)) rfl (by show Value.bool _ = Value.bool _; rw [Hf.out]))
      refine AllG.cons (k' := 12) rfl ?_ ?_
      · intro a' w' hB hk hin KK hK
        refine wp_load_rc _ rfl b7 0 _ (eval_tmp (by rw [hk 7 (by kernel_rfl)]; rfl)) (RB7.out _ hB).1 ?_
        exact hK _ _ hB (KeepsC.of_below (Below.refl _ _)) (fact_put (P := isEq (.agg rs.toArray)) rfl rfl)
      refine AllG.cons (k' := 13) rfl ?_ ?_
      · intro a' w' hB hk hin KK hK
        refine wp_load_rv _ rfl b8 0 _ (eval_tmp (by rw [hk 8 (by kernel_rfl)]; rfl)) (RB8.out _ hB).1 ?_
        exact hK _ _ hB (KeepsC.of_below (Below.refl _ _)) (fact_put (P := isEq (.agg zs.toArray)) rfl rfl)
      refine AllG.cons (k' := 14) rfl ?_ ?_
      · intro a' w' hB hk hin KK hK
        obtain ⟨v10, e10, q10⟩ := hin 11 _ 36 rfl rfl ⟨{ on := 11, ground := .data }, by simp, rfl, rfl⟩
        have q10 := fact_get (P := isEq (.agg rs.toArray)) rfl q10
        have q10' : v10 = .agg rs.toArray := q10
        subst q10'
        obtain ⟨v11, e11, q11⟩ := hin 12 _ 37 rfl rfl ⟨{ on := 12, ground := .data }, by simp, rfl, rfl⟩
        have q11 := fact_get (P := isEq (.agg zs.toArray)) rfl q11
        have q11' : v11 = .agg zs.toArray := q11
        subst q11'
        unfold Oper.wp execOp
        go_simp
        refine (refFull_walk x v rs zs w' (by have := Hsv.out; omega) (RB7.out _ hB).2 (RB8.out _ hB).2).mono ?_
        rintro e wn ⟨rfl, hbn⟩
        exact hK _ _ (hB.trans (hbn.mono hB.size)) (KeepsC.of_below hbn) (fact_put (P := isEq (.bool f)) rfl (by show Value.bool _ = Value.bool _; rw [Hf.out]))
      refine AllG.cons (k' := 15) rfl ?_ ?_
      · intro a' w' hB hk hin KK hK
        obtain ⟨v12, e12, q12⟩ := hin 10 _ 35 rfl rfl ⟨{ on := 10, ground := .data }, by simp, rfl, rfl⟩
        have q12 := fact_get (P := isEq (.bool f)) rfl q12
        have q12' : v12 = .bool f := q12
        subst q12'
        obtain ⟨v13, e13, q13⟩ := hin 13 _ 38 rfl rfl ⟨{ on := 13, ground := .data }, by simp, rfl, rfl⟩
        have q13 := fact_get (P := isEq (.bool f)) rfl q13
        have q13' : v13 = .bool f := q13
        subst q13'
        unfold Oper.wp execOp
        go_simp
        exact hK _ _ hB (KeepsC.of_below (Below.refl _ _)) (fact_put (P := isEq (.bool true)) rfl (by first | rfl | (simp; done)))
      refine AllG.cons (k' := 16) rfl ?_ ?_
      · intro a' w' hB hk hin KK hK
        obtain ⟨v14, e14, q14⟩ := hin 7 _ 32 rfl rfl ⟨{ on := 7, ground := .data }, by simp, rfl, rfl⟩
        have q14 := fact_get (P := isEq (.bool true)) rfl q14
        have q14' : v14 = .bool true := q14
        subst q14'
        obtain ⟨v15, e15, q15⟩ := hin 14 _ 39 rfl rfl ⟨{ on := 14, ground := .data }, by simp, rfl, rfl⟩
        have q15 := fact_get (P := isEq (.bool true)) rfl q15
        have q15' : v15 = .bool true := q15
        subst q15'
        unfold Oper.wp execOp
        go_simp
        exact hK _ _ hB (KeepsC.of_below (Below.refl _ _)) (fact_put (P := isEq (.bool true)) rfl rfl)
      refine AllG.cons (k' := 17) rfl ?_ ?_
      · intro a' w' hB hk hin KK hK
        obtain ⟨v16, e16, q16⟩ := hin 15 _ 40 rfl rfl ⟨{ on := 15, ground := .data }, by simp, rfl, rfl⟩
        have q16 := fact_get (P := isEq (.bool true)) rfl q16
        have q16' : v16 = .bool true := q16
        subst q16'
        unfold Oper.wp execOp
        go_simp
        exact hK _ _ hB (KeepsC.of_below (Below.refl _ _)) (fact_put (P := isEq (.bool true)) rfl rfl)
      refine AllG.cons (k' := 18) rfl ?_ ?_
      · intro a' w' hB hk hin KK hK
        refine wp_load_valK _ rfl (w.heap.size + 1) 0 _ (eval_tmp (by rw [hk 4 (by kernel_rfl)]; rfl)) (BX4.out _ hB).1 ?_
        exact hK _ _ hB (KeepsC.of_below (Below.refl _ _)) (fact_put (P := isVal v) rfl ⟨_, rfl, (BX4.out _ hB).2⟩)
      refine AllG.cons (k' := 19) rfl ?_ ?_
      · intro a' w' hB hk hin KK hK
        obtain ⟨v17, e17, q17⟩ := hin 17 _ 42 rfl rfl ⟨{ on := 17, ground := .data }, by simp, rfl, rfl⟩
        have q17 := fact_get (P := isVal v) rfl q17
        obtain ⟨zs17, r17, hat17⟩ := q17
        subst r17
        unfold Oper.wp execOp
        go_simp
        refine (flat_y hat17 Hsv.out).mono ?_
        rintro e wn ⟨p, c, rfl, hy, hbn⟩
        exact hK _ _ (hB.trans (hbn.mono hB.size)) (KeepsC.of_below hbn) (fact_put (P := isBytes v.flat) rfl ⟨p, c, rfl, hy⟩)
      refine AllG.cons (k' := 20) rfl ?_ ?_
      · intro a' w' hB hk hin KK hK
        obtain ⟨v18, e18, q18⟩ := hin 18 _ 43 rfl rfl ⟨{ on := 18, ground := .data }, by simp, rfl, rfl⟩
        have q18 := fact_get (P := isBytes v.flat) rfl q18
        obtain ⟨p18, c18, r18, hy18⟩ := q18
        subst r18
        have hst : (convert 46 9 _).run Try.prog w' = _ := string_at hy18
        unfold Oper.wp execOp
        simp only [eval_tmp e18, Sem.run_bind, Sem.run_pure, Result.andThen_ok, hst]
        exact hK _ _ hB (KeepsC.of_below (Below.refl _ _)) (fact_put (P := isEq (.string tf)) rfl (by rw [Htf.out]; rfl))
      refine AllG.cons (k' := 21) rfl ?_ ?_
      · intro a' w' hB hk hin KK hK
        refine wp_load_rv _ rfl b8 0 _ (eval_tmp (by rw [hk 8 (by kernel_rfl)]; rfl)) (RB8.out _ hB).1 ?_
        exact hK _ _ hB (KeepsC.of_below (Below.refl _ _)) (fact_put (P := isEq (.agg zs.toArray)) rfl rfl)
      refine AllG.cons (k' := 22) rfl ?_ ?_
      · intro a' w' hB hk hin KK hK
        obtain ⟨v19, e19, q19⟩ := hin 20 _ 45 rfl rfl ⟨{ on := 20, ground := .data }, by simp, rfl, rfl⟩
        have q19 := fact_get (P := isEq (.agg zs.toArray)) rfl q19
        have q19' : v19 = .agg zs.toArray := q19
        subst q19'
        unfold Oper.wp execOp
        go_simp
        refine (rflat_y (RB8.out _ hB).2 Hsv.out).mono ?_
        rintro e wn ⟨p, c, rfl, hy, hbn⟩
        exact hK _ _ (hB.trans (hbn.mono hB.size)) (KeepsC.of_below hbn) (fact_put (P := isBytes v.flat) rfl ⟨p, c, rfl, hy⟩)
      refine AllG.cons (k' := 23) rfl ?_ ?_
      · intro a' w' hB hk hin KK hK
        obtain ⟨v20, e20, q20⟩ := hin 21 _ 46 rfl rfl ⟨{ on := 21, ground := .data }, by simp, rfl, rfl⟩
        have q20 := fact_get (P := isBytes v.flat) rfl q20
        obtain ⟨p20, c20, r20, hy20⟩ := q20
        subst r20
        have hst : (convert 46 9 _).run Try.prog w' = _ := string_at hy20
        unfold Oper.wp execOp
        simp only [eval_tmp e20, Sem.run_bind, Sem.run_pure, Result.andThen_ok, hst]
        exact hK _ _ hB (KeepsC.of_below (Below.refl _ _)) (fact_put (P := isEq (.string tf)) rfl (by rw [Htf.out]; rfl))
      refine AllG.cons (k' := 24) rfl ?_ ?_
      · intro a' w' hB hk hin KK hK
        obtain ⟨v21, e21, q21⟩ := hin 19 _ 44 rfl rfl ⟨{ on := 19, ground := .data }, by simp, rfl, rfl⟩
        have q21 := fact_get (P := isEq (.string tf)) rfl q21
        have q21' : v21 = .string tf := q21
        subst q21'
        obtain ⟨v22, e22, q22⟩ := hin 22 _ 47 rfl rfl ⟨{ on := 22, ground := .data }, by simp, rfl, rfl⟩
        have q22 := fact_get (P := isEq (.string tf)) rfl q22
        have q22' : v22 = .string tf := q22
        subst q22'
        unfold Oper.wp execOp
        go_simp
        exact hK _ _ hB (KeepsC.of_below (Below.refl _ _)) (fact_put (P := isEq (.bool true)) rfl (by first | rfl | (simp; done)))
      refine AllG.cons (k' := 25) rfl ?_ ?_
      · intro a' w' hB hk hin KK hK
        obtain ⟨v23, e23, q23⟩ := hin 16 _ 41 rfl rfl ⟨{ on := 16, ground := .data }, by simp, rfl, rfl⟩
        have q23 := fact_get (P := isEq (.bool true)) rfl q23
        have q23' : v23 = .bool true := q23
        subst q23'
        obtain ⟨v24, e24, q24⟩ := hin 23 _ 48 rfl rfl ⟨{ on := 23, ground := .data }, by simp, rfl, rfl⟩
        have q24 := fact_get (P := isEq (.bool true)) rfl q24
        have q24' : v24 = .bool true := q24
        subst q24'
        unfold Oper.wp execOp
        go_simp
        exact hK _ _ hB (KeepsC.of_below (Below.refl _ _)) (fact_put (P := isEq (.bool true)) rfl rfl)
      refine AllG.cons (k' := 26) rfl ?_ ?_
      · intro a' w' hB hk hin KK hK
        obtain ⟨v25, e25, q25⟩ := hin 24 _ 49 rfl rfl ⟨{ on := 24, ground := .data }, by simp, rfl, rfl⟩
        have q25 := fact_get (P := isEq (.bool true)) rfl q25
        have q25' : v25 = .bool true := q25
        subst q25'
        unfold Oper.wp execOp
        go_simp
        exact hK _ _ hB (KeepsC.of_below (Below.refl _ _)) (fact_put (P := isEq (.bool true)) rfl rfl)
      refine AllG.cons (k' := 27) rfl ?_ ?_
      · intro a' w' hB hk hin KK hK
        refine wp_load_valK _ rfl (w.heap.size + 1) 0 _ (eval_tmp (by rw [hk 4 (by kernel_rfl)]; rfl)) (BX4.out _ hB).1 ?_
        exact hK _ _ hB (KeepsC.of_below (Below.refl _ _)) (fact_put (P := isVal v) rfl ⟨_, rfl, (BX4.out _ hB).2⟩)
      refine AllG.cons (k' := 28) rfl ?_ ?_
      · intro a' w' hB hk hin KK hK
        obtain ⟨v26, e26, q26⟩ := hin 26 _ 51 rfl rfl ⟨{ on := 26, ground := .data }, by simp, rfl, rfl⟩
        have q26 := fact_get (P := isVal v) rfl q26
        obtain ⟨zs26, r26, hat26⟩ := q26
        subst r26
        unfold Oper.wp execOp
        go_simp
        refine (len_y hat26 Hsv.out).mono ?_
        rintro e wn ⟨rfl, hbn⟩
        exact hK _ _ (hB.trans (hbn.mono hB.size)) (KeepsC.of_below hbn) (fact_put (P := isEq (.int .i64 (v.flat.length : Int))) rfl rfl)
      refine AllG.cons (k' := 29) rfl ?_ ?_
      · intro a' w' hB hk hin KK hK
        refine wp_load_rv _ rfl b8 0 _ (eval_tmp (by rw [hk 8 (by kernel_rfl)]; rfl)) (RB8.out _ hB).1 ?_
        exact hK _ _ hB (KeepsC.of_below (Below.refl _ _)) (fact_put (P := isEq (.agg zs.toArray)) rfl rfl)
      refine AllG.cons (k' := 30) rfl ?_ ?_
      · intro a' w' hB hk hin KK hK
        obtain ⟨v27, e27, q27⟩ := hin 28 _ 53 rfl rfl ⟨{ on := 28, ground := .data }, by simp, rfl, rfl⟩
        have q27 := fact_get (P := isEq (.agg zs.toArray)) rfl q27
        have q27' : v27 = .agg zs.toArray := q27
        subst q27'
        unfold Oper.wp execOp
        go_simp
        refine (rflat_y (RB8.out _ hB).2 Hsv.out).mono ?_
        rintro e wn ⟨p, c, rfl, hy, hbn⟩
        exact hK _ _ (hB.trans (hbn.mono hB.size)) (KeepsC.of_below hbn) (fact_put (P := isBytes v.flat) rfl ⟨p, c, rfl, hy⟩)
      refine AllG.cons (k' := 31) rfl ?_ ?_
      · intro a' w' hB hk hin KK hK
        obtain ⟨v28, e28, q28⟩ := hin 29 _ 54 rfl rfl ⟨{ on := 29, ground := .data }, by simp, rfl, rfl⟩
        have q28 := fact_get (P := isBytes v.flat) rfl q28
        obtain ⟨p28, c28, r28, hy28⟩ := q28
        subst r28
        unfold Oper.wp execOp
        go_simp
        exact hK _ _ hB (KeepsC.of_below (Below.refl _ _)) (fact_put (P := isEq (.int .i64 (v.flat.length : Int))) rfl rfl)
      refine AllG.cons (k' := 32) rfl ?_ ?_
      · intro a' w' hB hk hin KK hK
        obtain ⟨v29, e29, q29⟩ := hin 27 _ 52 rfl rfl ⟨{ on := 27, ground := .data }, by simp, rfl, rfl⟩
        have q29 := fact_get (P := isEq (.int .i64 (v.flat.length : Int))) rfl q29
        have q29' : v29 = .int .i64 (v.flat.length : Int) := q29
        subst q29'
        obtain ⟨v30, e30, q30⟩ := hin 30 _ 55 rfl rfl ⟨{ on := 30, ground := .data }, by simp, rfl, rfl⟩
        have q30 := fact_get (P := isEq (.int .i64 (v.flat.length : Int))) rfl q30
        have q30' : v30 = .int .i64 (v.flat.length : Int) := q30
        subst q30'
        unfold Oper.wp execOp
        go_simp
        exact hK _ _ hB (KeepsC.of_below (Below.refl _ _)) (fact_put (P := isEq (.bool true)) rfl (by first | rfl | (simp; done)))
      refine AllG.cons (k' := 33) rfl ?_ ?_
      · intro a' w' hB hk hin KK hK
        obtain ⟨v31, e31, q31⟩ := hin 25 _ 50 rfl rfl ⟨{ on := 25, ground := .data }, by simp, rfl, rfl⟩
        have q31 := fact_get (P := isEq (.bool true)) rfl q31
        have q31' : v31 = .bool true := q31
        subst q31'
        obtain ⟨v32, e32, q32⟩ := hin 31 _ 56 rfl rfl ⟨{ on := 31, ground := .data }, by simp, rfl, rfl⟩
        have q32 := fact_get (P := isEq (.bool true)) rfl q32
        have q32' : v32 = .bool true := q32
        subst q32'
        unfold Oper.wp execOp
        go_simp
        exact hK _ _ hB (KeepsC.of_below (Below.refl _ _)) (fact_put (P := isEq (.bool true)) rfl rfl)
      refine AllG.cons (k' := 34) rfl ?_ ?_
      · intro a' w' hB hk hin KK hK
        obtain ⟨v33, e33, q33⟩ := hin 32 _ 57 rfl rfl ⟨{ on := 32, ground := .data }, by simp, rfl, rfl⟩
        have q33 := fact_get (P := isEq (.bool true)) rfl q33
        have q33' : v33 = .bool true := q33
        subst q33'
        unfold Oper.wp execOp
        go_simp
        exact hK _ _ hB (KeepsC.of_below (Below.refl _ _)) (fact_put (P := isEq (.bool true)) rfl rfl)
      refine AllG.cons (k' := 35) rfl ?_ ?_
      · intro a' w' hB hk hin KK hK
        refine wp_load_valK _ rfl (w.heap.size + 1) 0 _ (eval_tmp (by rw [hk 4 (by kernel_rfl)]; rfl)) (BX4.out _ hB).1 ?_
        exact hK _ _ hB (KeepsC.of_below (Below.refl _ _)) (fact_put (P := isVal v) rfl ⟨_, rfl, (BX4.out _ hB).2⟩)
      refine AllG.cons (k' := 36) rfl ?_ ?_
      · intro a' w' hB hk hin KK hK
        obtain ⟨v34, e34, q34⟩ := hin 34 _ 59 rfl rfl ⟨{ on := 34, ground := .data }, by simp, rfl, rfl⟩
        have q34 := fact_get (P := isVal v) rfl q34
        obtain ⟨zs34, r34, hat34⟩ := q34
        subst r34
        unfold Oper.wp execOp
        go_simp
        refine (text_y hat34 Ht1.out Hsv.out).mono ?_
        rintro e wn ⟨rfl, hbn⟩
        exact hK _ _ (hB.trans (hbn.mono hB.size)) (KeepsC.of_below hbn) (fact_put (P := isEq (.string t1)) rfl rfl)
      refine AllG.cons (k' := 37) rfl ?_ ?_
      · intro a' w' hB hk hin KK hK
        refine wp_load_rv _ rfl b8 0 _ (eval_tmp (by rw [hk 8 (by kernel_rfl)]; rfl)) (RB8.out _ hB).1 ?_
        exact hK _ _ hB (KeepsC.of_below (Below.refl _ _)) (fact_put (P := isEq (.agg zs.toArray)) rfl rfl)
      refine AllG.cons (k' := 38) rfl ?_ ?_
      · intro a' w' hB hk hin KK hK
        obtain ⟨v35, e35, q35⟩ := hin 36 _ 61 rfl rfl ⟨{ on := 36, ground := .data }, by simp, rfl, rfl⟩
        have q35 := fact_get (P := isEq (.agg zs.toArray)) rfl q35
        have q35' : v35 = .agg zs.toArray := q35
        subst q35'
        unfold Oper.wp execOp
        go_simp
        refine (rtext_y (RB8.out _ hB).2 Ht1.out Hsv.out).mono ?_
        rintro e wn ⟨rfl, hbn⟩
        exact hK _ _ (hB.trans (hbn.mono hB.size)) (KeepsC.of_below hbn) (fact_put (P := isEq (.string t1)) rfl rfl)
      refine AllG.cons (k' := 39) rfl ?_ ?_
      · intro a' w' hB hk hin KK hK
        obtain ⟨v36, e36, q36⟩ := hin 35 _ 60 rfl rfl ⟨{ on := 35, ground := .data }, by simp, rfl, rfl⟩
        have q36 := fact_get (P := isEq (.string t1)) rfl q36
        have q36' : v36 = .string t1 := q36
        subst q36'
        obtain ⟨v37, e37, q37⟩ := hin 37 _ 62 rfl rfl ⟨{ on := 37, ground := .data }, by simp, rfl, rfl⟩
        have q37 := fact_get (P := isEq (.string t1)) rfl q37
        have q37' : v37 = .string t1 := q37
        subst q37'
        unfold Oper.wp execOp
        go_simp
        exact hK _ _ hB (KeepsC.of_below (Below.refl _ _)) (fact_put (P := isEq (.bool true)) rfl (by first | rfl | (simp; done)))
      refine AllG.cons (k' := 40) rfl ?_ ?_
      · intro a' w' hB hk hin KK hK
        obtain ⟨v38, e38, q38⟩ := hin 33 _ 58 rfl rfl ⟨{ on := 33, ground := .data }, by simp, rfl, rfl⟩
        have q38 := fact_get (P := isEq (.bool true)) rfl q38
        have q38' : v38 = .bool true := q38
        subst q38'
        obtain ⟨v39, e39, q39⟩ := hin 38 _ 63 rfl rfl ⟨{ on := 38, ground := .data }, by simp, rfl, rfl⟩
        have q39 := fact_get (P := isEq (.bool true)) rfl q39
        have q39' : v39 = .bool true := q39
        subst q39'
        unfold Oper.wp execOp
        go_simp
        exact hK _ _ hB (KeepsC.of_below (Below.refl _ _)) (fact_put (P := isEq (.bool true)) rfl rfl)
      refine AllG.cons (k' := 41) rfl ?_ ?_
      · intro a' w' hB hk hin KK hK
        obtain ⟨v40, e40, q40⟩ := hin 39 _ 64 rfl rfl ⟨{ on := 39, ground := .data }, by simp, rfl, rfl⟩
        have q40 := fact_get (P := isEq (.bool true)) rfl q40
        have q40' : v40 = .bool true := q40
        subst q40'
        unfold Oper.wp execOp
        go_simp
        exact hK _ _ hB (KeepsC.of_below (Below.refl _ _)) (fact_put (P := isEq (.bool true)) rfl rfl)
      refine AllG.cons (k' := 42) rfl ?_ ?_
      · intro a' w' hB hk hin KK hK
        refine wp_load_valK _ rfl (w.heap.size + 1) 0 _ (eval_tmp (by rw [hk 4 (by kernel_rfl)]; rfl)) (BX4.out _ hB).1 ?_
        exact hK _ _ hB (KeepsC.of_below (Below.refl _ _)) (fact_put (P := isVal v) rfl ⟨_, rfl, (BX4.out _ hB).2⟩)
      refine AllG.cons (k' := 43) rfl ?_ ?_
      · intro a' w' hB hk hin KK hK
        obtain ⟨v41, e41, q41⟩ := hin 41 _ 66 rfl rfl ⟨{ on := 41, ground := .data }, by simp, rfl, rfl⟩
        have q41 := fact_get (P := isVal v) rfl q41
        obtain ⟨zs41, r41, hat41⟩ := q41
        subst r41
        unfold Oper.wp execOp
        go_simp
        refine (size_any v.count v _ w' (Nat.le_refl _) (by have := Hsv.out; omega) hat41).mono ?_
        rintro e wn ⟨rfl, hbn⟩
        exact hK _ _ (hB.trans (hbn.mono hB.size)) (KeepsC.of_below hbn) (fact_put (P := isEq (.int .i64 (v.size : Int))) rfl rfl)
      refine AllG.cons (k' := 44) rfl ?_ ?_
      · intro a' w' hB hk hin KK hK
        refine wp_load_rv _ rfl b8 0 _ (eval_tmp (by rw [hk 8 (by kernel_rfl)]; rfl)) (RB8.out _ hB).1 ?_
        exact hK _ _ hB (KeepsC.of_below (Below.refl _ _)) (fact_put (P := isEq (.agg zs.toArray)) rfl rfl)
      refine AllG.cons (k' := 45) rfl ?_ ?_
      · intro a' w' hB hk hin KK hK
        obtain ⟨v42, e42, q42⟩ := hin 43 _ 68 rfl rfl ⟨{ on := 43, ground := .data }, by simp, rfl, rfl⟩
        have q42 := fact_get (P := isEq (.agg zs.toArray)) rfl q42
        have q42' : v42 = .agg zs.toArray := q42
        subst q42'
        unfold Oper.wp execOp
        go_simp
        refine (refVSize_any v.count v zs w' (Nat.le_refl _) (by have := Hsv.out; omega) (RB8.out _ hB).2).mono ?_
        rintro e wn ⟨rfl, hbn⟩
        exact hK _ _ (hB.trans (hbn.mono hB.size)) (KeepsC.of_below hbn) (fact_put (P := isEq (.int .i64 (v.size : Int))) rfl rfl)
      refine AllG.cons (k' := 46) rfl ?_ ?_
      · intro a' w' hB hk hin KK hK
        obtain ⟨v43, e43, q43⟩ := hin 42 _ 67 rfl rfl ⟨{ on := 42, ground := .data }, by simp, rfl, rfl⟩
        have q43 := fact_get (P := isEq (.int .i64 (v.size : Int))) rfl q43
        have q43' : v43 = .int .i64 (v.size : Int) := q43
        subst q43'
        obtain ⟨v44, e44, q44⟩ := hin 44 _ 69 rfl rfl ⟨{ on := 44, ground := .data }, by simp, rfl, rfl⟩
        have q44 := fact_get (P := isEq (.int .i64 (v.size : Int))) rfl q44
        have q44' : v44 = .int .i64 (v.size : Int) := q44
        subst q44'
        unfold Oper.wp execOp
        go_simp
        exact hK _ _ hB (KeepsC.of_below (Below.refl _ _)) (fact_put (P := isEq (.bool true)) rfl (by first | rfl | (simp; done)))
      refine AllG.cons (k' := 47) rfl ?_ ?_
      · intro a' w' hB hk hin KK hK
        obtain ⟨v45, e45, q45⟩ := hin 40 _ 65 rfl rfl ⟨{ on := 40, ground := .data }, by simp, rfl, rfl⟩
        have q45 := fact_get (P := isEq (.bool true)) rfl q45
        have q45' : v45 = .bool true := q45
        subst q45'
        obtain ⟨v46, e46, q46⟩ := hin 45 _ 70 rfl rfl ⟨{ on := 45, ground := .data }, by simp, rfl, rfl⟩
        have q46 := fact_get (P := isEq (.bool true)) rfl q46
        have q46' : v46 = .bool true := q46
        subst q46'
        unfold Oper.wp execOp
        go_simp
        exact hK _ _ hB (KeepsC.of_below (Below.refl _ _)) (fact_put (P := isEq (.bool true)) rfl rfl)
      refine AllG.cons (k' := 48) rfl ?_ ?_
      · intro a' w' hB hk hin KK hK
        obtain ⟨v47, e47, q47⟩ := hin 46 _ 71 rfl rfl ⟨{ on := 46, ground := .data }, by simp, rfl, rfl⟩
        have q47 := fact_get (P := isEq (.bool true)) rfl q47
        have q47' : v47 = .bool true := q47
        subst q47'
        unfold Oper.wp execOp
        go_simp
        exact hK _ _ hB (KeepsC.of_below (Below.refl _ _)) (fact_put (P := isEq (.bool true)) rfl rfl)
      refine AllG.cons (k' := 49) rfl ?_ ?_
      · intro a' w' hB hk hin KK hK
        refine wp_load_valK _ rfl (w.heap.size + 1) 0 _ (eval_tmp (by rw [hk 4 (by kernel_rfl)]; rfl)) (BX4.out _ hB).1 ?_
        exact hK _ _ hB (KeepsC.of_below (Below.refl _ _)) (fact_put (P := isVal v) rfl ⟨_, rfl, (BX4.out _ hB).2⟩)
      refine AllG.cons (k' := 50) rfl ?_ ?_
      · intro a' w' hB hk hin KK hK
        refine wp_load_valK _ rfl (w.heap.size + 2) 0 _ (eval_tmp (by rw [hk 5 (by kernel_rfl)]; rfl)) (BX5.out _ hB).1 ?_
        exact hK _ _ hB (KeepsC.of_below (Below.refl _ _)) (fact_put (P := isVal u) rfl ⟨_, rfl, (BX5.out _ hB).2⟩)
      refine AllG.cons (k' := 51) rfl ?_ ?_
      · intro a' w' hB hk hin KK hK
        obtain ⟨v48, e48, q48⟩ := hin 48 _ 73 rfl rfl ⟨{ on := 48, ground := .data }, by simp, rfl, rfl⟩
        have q48 := fact_get (P := isVal v) rfl q48
        obtain ⟨zs48, r48, hat48⟩ := q48
        subst r48
        obtain ⟨v49, e49, q49⟩ := hin 49 _ 74 rfl rfl ⟨{ on := 49, ground := .data }, by simp, rfl, rfl⟩
        have q49 := fact_get (P := isVal u) rfl q49
        obtain ⟨zs49, r49, hat49⟩ := q49
        subst r49
        unfold Oper.wp execOp
        go_simp
        refine (same_any v.count v u _ _ w' (Nat.le_refl _) hat48 hat49).mono ?_
        rintro e wn ⟨rfl, hbn⟩
        exact hK _ _ (hB.trans (hbn.mono hB.size)) (KeepsC.of_below hbn) (fact_put (P := isEq (.bool b)) rfl (by show Value.bool _ = Value.bool _; rw [Hb.out]))
      refine AllG.cons (k' := 52) rfl ?_ ?_
      · intro a' w' hB hk hin KK hK
        refine wp_load_rv _ rfl b8 0 _ (eval_tmp (by rw [hk 8 (by kernel_rfl)]; rfl)) (RB8.out _ hB).1 ?_
        exact hK _ _ hB (KeepsC.of_below (Below.refl _ _)) (fact_put (P := isEq (.agg zs.toArray)) rfl rfl)
      refine AllG.cons (k' := 53) rfl ?_ ?_
      · intro a' w' hB hk hin KK hK
        refine wp_load_valK _ rfl (w.heap.size + 2) 0 _ (eval_tmp (by rw [hk 5 (by kernel_rfl)]; rfl)) (BX5.out _ hB).1 ?_
        exact hK _ _ hB (KeepsC.of_below (Below.refl _ _)) (fact_put (P := isVal u) rfl ⟨_, rfl, (BX5.out _ hB).2⟩)
      refine AllG.cons (k' := 54) rfl ?_ ?_
      · intro a' w' hB hk hin KK hK
        obtain ⟨v50, e50, q50⟩ := hin 52 _ 77 rfl rfl ⟨{ on := 52, ground := .data }, by simp, rfl, rfl⟩
        have q50 := fact_get (P := isVal u) rfl q50
        obtain ⟨zs50, r50, hat50⟩ := q50
        subst r50
        unfold Oper.wp execOp
        go_simp
        refine (vof_y hat50 Hsl.out).mono ?_
        rintro e wn ⟨⟨zz, rfl, hat⟩, hbn⟩
        exact hK _ _ (hB.trans (hbn.mono hB.size)) (KeepsC.of_below hbn) (fact_put (P := isVal u) rfl ⟨zz, rfl, hat⟩)
      refine AllG.cons (k' := 55) rfl ?_ ?_
      · intro a' w' hB hk hin KK hK
        obtain ⟨v51, e51, q51⟩ := hin 51 _ 76 rfl rfl ⟨{ on := 51, ground := .data }, by simp, rfl, rfl⟩
        have q51 := fact_get (P := isEq (.agg zs.toArray)) rfl q51
        have q51' : v51 = .agg zs.toArray := q51
        subst q51'
        obtain ⟨v52, e52, q52⟩ := hin 53 _ 78 rfl rfl ⟨{ on := 53, ground := .data }, by simp, rfl, rfl⟩
        have q52 := fact_get (P := isVal u) rfl q52
        obtain ⟨zs52, r52, hat52⟩ := q52
        subst r52
        unfold Oper.wp execOp
        go_simp
        refine (refVSame_any v.count v u zs _ w' (Nat.le_refl _) (RB8.out _ hB).2 hat52).mono ?_
        rintro e wn ⟨rfl, hbn⟩
        exact hK _ _ (hB.trans (hbn.mono hB.size)) (KeepsC.of_below hbn) (fact_put (P := isEq (.bool b)) rfl (by show Value.bool _ = Value.bool _; rw [Hb.out]))
      refine AllG.cons (k' := 56) rfl ?_ ?_
      · intro a' w' hB hk hin KK hK
        obtain ⟨v53, e53, q53⟩ := hin 50 _ 75 rfl rfl ⟨{ on := 50, ground := .data }, by simp, rfl, rfl⟩
        have q53 := fact_get (P := isEq (.bool b)) rfl q53
        have q53' : v53 = .bool b := q53
        subst q53'
        obtain ⟨v54, e54, q54⟩ := hin 54 _ 79 rfl rfl ⟨{ on := 54, ground := .data }, by simp, rfl, rfl⟩
        have q54 := fact_get (P := isEq (.bool b)) rfl q54
        have q54' : v54 = .bool b := q54
        subst q54'
        unfold Oper.wp execOp
        go_simp
        exact hK _ _ hB (KeepsC.of_below (Below.refl _ _)) (fact_put (P := isEq (.bool true)) rfl (by first | rfl | (simp; done)))
      refine AllG.cons (k' := 57) rfl ?_ ?_
      · intro a' w' hB hk hin KK hK
        obtain ⟨v55, e55, q55⟩ := hin 47 _ 72 rfl rfl ⟨{ on := 47, ground := .data }, by simp, rfl, rfl⟩
        have q55 := fact_get (P := isEq (.bool true)) rfl q55
        have q55' : v55 = .bool true := q55
        subst q55'
        obtain ⟨v56, e56, q56⟩ := hin 55 _ 80 rfl rfl ⟨{ on := 55, ground := .data }, by simp, rfl, rfl⟩
        have q56 := fact_get (P := isEq (.bool true)) rfl q56
        have q56' : v56 = .bool true := q56
        subst q56'
        unfold Oper.wp execOp
        go_simp
        exact hK _ _ hB (KeepsC.of_below (Below.refl _ _)) (fact_put (P := isEq (.bool true)) rfl rfl)
      refine AllG.cons (k' := 58) rfl ?_ ?_
      · intro a' w' hB hk hin KK hK
        obtain ⟨v57, e57, q57⟩ := hin 56 _ 81 rfl rfl ⟨{ on := 56, ground := .data }, by simp, rfl, rfl⟩
        have q57 := fact_get (P := isEq (.bool true)) rfl q57
        have q57' : v57 = .bool true := q57
        subst q57'
        unfold Oper.wp execOp
        go_simp
        exact hK _ _ hB (KeepsC.of_below (Below.refl _ _)) (fact_put (P := isEq (.bool true)) rfl rfl)
      exact AllG.nil
    case hend =>
     intro a' w' hB hdef hsz hk hvals
     obtain ⟨v', hv', hvt⟩ := hvals 57 _ 6 rfl rfl
     have hvt' := fact_get (P := isEq (.bool true)) rfl hvt
     have hvt2 : v' = .bool true := hvt'
     subst hvt2
     have hf0 : a'.tmps.getD 6 undef = .bool true := by rw [Array.getD_eq_getD_getElem?, hv']; rfl
     have heq := act_eq hdef hsz hk
     refine hMet a' w' (Met.intro (hR a' w' ?_))
     refine ⟨a'.tmps.getD 6 undef, a'.tmps.getD 25 undef, a'.tmps.getD 26 undef, a'.tmps.getD 27 undef, a'.tmps.getD 28 undef, a'.tmps.getD 29 undef, a'.tmps.getD 30 undef, a'.tmps.getD 31 undef, a'.tmps.getD 32 undef, a'.tmps.getD 33 undef, a'.tmps.getD 34 undef, a'.tmps.getD 35 undef, a'.tmps.getD 36 undef, a'.tmps.getD 37 undef, a'.tmps.getD 38 undef, a'.tmps.getD 39 undef, a'.tmps.getD 40 undef, a'.tmps.getD 41 undef, a'.tmps.getD 42 undef, a'.tmps.getD 43 undef, a'.tmps.getD 44 undef, a'.tmps.getD 45 undef, a'.tmps.getD 46 undef, a'.tmps.getD 47 undef, a'.tmps.getD 48 undef, a'.tmps.getD 49 undef, a'.tmps.getD 50 undef, a'.tmps.getD 51 undef, a'.tmps.getD 52 undef, a'.tmps.getD 53 undef, a'.tmps.getD 54 undef, a'.tmps.getD 55 undef, a'.tmps.getD 56 undef, a'.tmps.getD 57 undef, a'.tmps.getD 58 undef, a'.tmps.getD 59 undef, a'.tmps.getD 60 undef, a'.tmps.getD 61 undef, a'.tmps.getD 62 undef, a'.tmps.getD 63 undef, a'.tmps.getD 64 undef, a'.tmps.getD 65 undef, a'.tmps.getD 66 undef, a'.tmps.getD 67 undef, a'.tmps.getD 68 undef, a'.tmps.getD 69 undef, a'.tmps.getD 70 undef, a'.tmps.getD 71 undef, a'.tmps.getD 72 undef, a'.tmps.getD 73 undef, a'.tmps.getD 74 undef, a'.tmps.getD 75 undef, a'.tmps.getD 76 undef, a'.tmps.getD 77 undef, a'.tmps.getD 78 undef, a'.tmps.getD 79 undef, a'.tmps.getD 80 undef, a'.tmps.getD 81 undef, ⟨hf0, hB⟩, heq.trans ?_⟩
     kernel_rfl
   case rest =>
    obtain ⟨rfl, hBc⟩ := hcut
    have Hfin := Lib.hid (HB.out.trans (hBc.mono HB.out.size))
    clear hBc
    go_wp2_with fail
    go_ret
    exact ⟨rfl, Hfin.out⟩

end V
end Go.Proofs.Ytohgmpopecckeaa
