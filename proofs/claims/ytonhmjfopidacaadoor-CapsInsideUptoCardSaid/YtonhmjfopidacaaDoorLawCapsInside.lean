/- The law CapsInside, walked: any core, any value of at most so many parts, any place, any way along. -/
import Derived.Test.YtonhmjfopidacaaDoorCapsLaw
namespace Go.Proofs.YtonhmjfopidacaaDoor
namespace V
set_option maxRecDepth 100000
open Go.RowKit
set_option maxHeartbeats 16000000 in
theorem capsInside_walk (x : K.Cr) (cs : List Value) (y : Vl) (ds : List Value) (a : Int) (_hf1 : fits64 a) (b : Int) (_hf2 : fits64 b) (w : World) (hx : K.Cr.at w x cs) (hy : Vl.at w y ds) (hsm : y.count ≤ 1048576) (hP : PowAt w) :
    Calls Tryd.prog 5 #[.agg cs.toArray, .agg ds.toArray, .int .i64 a, .int .i64 b] w fun e w' => e = .returned (.bool true) ∧ Below w.heap.size w w' := by
  obtain ⟨W, hW⟩ : ∃ W, W = (w.alloc (.cells cs.toArray 28)).alloc (.cells ds.toArray 39) := ⟨_, rfl⟩
  have hbW : Below w.heap.size w W := by rw [hW]; exact (((Below.refl _ _).alloc (Nat.le_refl _) _).alloc (by simp) _)
  have hsW : W.heap.size = w.heap.size + 2 := by rw [hW]; simp
  have hxx : K.Core7 W w.heap.size 0 cs := by
    have h := World.alloc_heap_new w (.cells cs.toArray 28)
    rw [hW]
    exact core7_below (K.core7_in h (K.at_len hx)) (B := w.heap.size + 1) (by omega) ((Below.refl _ _).alloc (by first | (simp; done) | (simp; omega)) _)
  have hxy : Val3 W (w.heap.size + 1) 0 ds := by
    have h := World.alloc_heap_new (w.alloc (.cells cs.toArray 28)) (.cells ds.toArray 39)
    rw [World.size_alloc] at h
    rw [hW]
    exact (val3_in h (at_len hy))
  have HXx : Hid (∀ w', Below W.heap.size W w' → K.Core7 w' w.heap.size 0 cs) := Lib.hid fun w' h => core7_below hxx (by omega) h
  have HAx : Hid (∀ w', Below W.heap.size W w' → K.Cr.at w' x cs) := Lib.hid fun w' h => K.Cr.at_below (hbW.trans (h.mono hbW.size)) (Nat.le_refl _) _ _ hx
  have HXy : Hid (∀ w', Below W.heap.size W w' → Val3 w' (w.heap.size + 1) 0 ds) := Lib.hid fun w' h => Val3.below hxy (by omega) h
  have HAy : Hid (∀ w', Below W.heap.size W w' → Vl.at w' y ds) := Lib.hid fun w' h => Vl.at_below (hbW.trans (h.mono hbW.size)) (Nat.le_refl _) _ _ hy
  have HbW := Lib.hid hbW
  have HsW := Lib.hid hsW
  clear hbW hsW hxx hxy
  have Haw : Hid (∀ w', Below W.heap.size W w' → Calls Tryd.prog 8 #[] w' fun e w' => e = .returned (.bool true) ∧ Below W.heap.size W w') := Lib.hid fun w' h => by
    refine (awake12_any w' (pow_below hP (HbW.out.trans (h.mono HbW.out.size)))).mono ?_
    rintro e w3 ⟨rfl, hb⟩
    exact ⟨rfl, h.trans (hb.mono h.size)⟩
  have Hbig : Hid (∀ w', Below W.heap.size W w' → Calls Tryd.prog 24 #[.agg cs.toArray, .int .i64 100] w' fun e w' => e = .returned (.bool (K.bigN 100 x)) ∧ Below W.heap.size W w') := Lib.hid fun w' h => by
    refine (K.big_any 100 x cs w' (by decide) (HAx.out _ h)).mono ?_
    rintro e w3 ⟨rfl, hb⟩
    exact ⟨rfl, h.trans (hb.mono h.size)⟩
  have Hwide : Hid (∀ w', Below W.heap.size W w' → Calls Tryd.prog 25 #[.agg ds.toArray, .int .i64 40] w' fun e w' => e = .returned (.bool (wideN 40 y)) ∧ Below W.heap.size W w') := Lib.hid fun w' h => by
    refine (wide_any 40 y ds w' (by decide) (HAy.out _ h)).mono ?_
    rintro e w3 ⟨rfl, hb⟩
    exact ⟨rfl, h.trans (hb.mono h.size)⟩
  have Hgood : Hid (∀ w', Below W.heap.size W w' → Calls Tryd.prog 32 #[.agg cs.toArray, .agg ds.toArray] w' fun e w' => e = .returned (.bool (goodV x y)) ∧ Below W.heap.size W w') := Lib.hid fun w' h => by
    refine (good_any (HAx.out _ h) (HAy.out _ h)).mono ?_
    rintro e w3 ⟨rfl, hb⟩
    exact ⟨rfl, h.trans (hb.mono h.size)⟩
  have HlenB : Hid (∀ w', Below W.heap.size W w' → Calls Tryd.prog 33 #[.agg ds.toArray] w' fun e w2 => e = .returned (.int .i64 (y.flat.length : Int)) ∧ Below w'.heap.size w' w2) := Lib.hid fun w' h => len12 (HAy.out _ h) hsm
  have Hfl := Lib.hid (show y.flat.length ≤ 1048576 by have := flat_le y; omega)
  have HofN : Hid (∀ (z : Int), 0 ≤ z → z ≤ 1073741824 → goodV x y = true → ∀ w', Below W.heap.size W w' → Calls Tryd.prog 13 #[.agg cs.toArray, .agg ds.toArray, .int .i64 z, .int .i64 32] w' (SpPost w' (spansL z (cap x y (z, none32)) 32) 0)) := Lib.hid fun z h1 h2 hg w' h => of_ok (HAx.out _ h) (HAy.out _ h) z 32 ⟨h1, h2, by decide⟩ hg
  obtain ⟨k1, s1, n1, a1, len1, cap1, rfl⟩ := K.at_lit hx
  obtain ⟨k2, z2, a2, len2, cap2, rfl⟩ := at_lit hy
  clear hx hy hP hsm
  cases B0 : K.bigN 100 x with
  | true =>
    rw [B0] at Hbig
    go_enter Tryd.func5, Tryd.ntmps5
    go_upto_region 1 with fail
    rw [← hW]
    clear hW
    go_wp2_with (first
      | (go_at_call 8; refine (Haw.out _ (Below.refl _ _)).mono ?_; rintro e W1 ⟨rfl, hb1⟩; have q0x := HXx.out _ hb1; have call0 := Hbig.out _ hb1; clear hb1)
      | (refine K.wpList_load_core rfl _ rfl w.heap.size 0 _ rfl q0x ?_)
      | (go_at_call 24; refine call0.mono ?_; clear call0; rintro e W2 ⟨rfl, hb2⟩; clear q0x; have Hb2 := Lib.hid hb2; clear hb2)
      | fail)
    go_ret
    exact ⟨rfl, HbW.out.trans (Hb2.out.mono HbW.out.size)⟩
  | false =>
  rw [B0] at Hbig
  cases B1 : wideN 40 y with
  | true =>
    rw [B1] at Hwide
    go_enter Tryd.func5, Tryd.ntmps5
    go_upto_region 1 with fail
    rw [← hW]
    clear hW
    go_wp2_with (first
      | (go_at_call 8; refine (Haw.out _ (Below.refl _ _)).mono ?_; rintro e W1 ⟨rfl, hb1⟩; have q0x := HXx.out _ hb1; have call0 := Hbig.out _ hb1; clear hb1)
      | (refine K.wpList_load_core rfl _ rfl w.heap.size 0 _ rfl q0x ?_)
      | (go_at_call 24; refine call0.mono ?_; clear call0; rintro e W2 ⟨rfl, hb2⟩; clear q0x; have q1y := HXy.out _ hb2; have call1 := Hwide.out _ hb2; clear hb2)
      | (refine wpList_load_val_want rfl _ rfl (w.heap.size + 1) 0 _ rfl q1y ?_)
      | (go_at_call 25; refine call1.mono ?_; clear call1; rintro e W3 ⟨rfl, hb3⟩; clear q1y; have Hb3 := Lib.hid hb3; clear hb3)
      | fail)
    go_ret
    exact ⟨rfl, HbW.out.trans (Hb3.out.mono HbW.out.size)⟩
  | false =>
  rw [B1] at Hwide
  by_cases d0 : a < 0
  · have e0 : decide (a < 0) = true := decide_eq_true d0
    clear d0
    go_enter Tryd.func5, Tryd.ntmps5
    go_upto_region 1 with fail
    rw [← hW]
    clear hW
    go_wp2_with (first
      | (go_at_call 8; refine (Haw.out _ (Below.refl _ _)).mono ?_; rintro e W1 ⟨rfl, hb1⟩; have q0x := HXx.out _ hb1; have call0 := Hbig.out _ hb1; clear hb1)
      | (refine K.wpList_load_core rfl _ rfl w.heap.size 0 _ rfl q0x ?_)
      | (go_at_call 24; refine call0.mono ?_; clear call0; rintro e W2 ⟨rfl, hb2⟩; clear q0x; have q1y := HXy.out _ hb2; have call1 := Hwide.out _ hb2; clear hb2)
      | (refine wpList_load_val_want rfl _ rfl (w.heap.size + 1) 0 _ rfl q1y ?_)
      | (go_at_call 25; refine call1.mono ?_; clear call1; rintro e W3 ⟨rfl, hb3⟩; clear q1y; have Hb3 := Lib.hid hb3; clear hb3)
      | fail)
    go_ret
    exact ⟨rfl, HbW.out.trans (Hb3.out.mono HbW.out.size)⟩
  have e0 : decide (a < 0) = false := decide_eq_false d0
  by_cases d1 : 1048576 < a
  · have e1 : decide (1048576 < a) = true := decide_eq_true d1
    clear d0 d1
    go_enter Tryd.func5, Tryd.ntmps5
    go_upto_region 1 with fail
    rw [← hW]
    clear hW
    go_wp2_with (first
      | (go_at_call 8; refine (Haw.out _ (Below.refl _ _)).mono ?_; rintro e W1 ⟨rfl, hb1⟩; have q0x := HXx.out _ hb1; have call0 := Hbig.out _ hb1; clear hb1)
      | (refine K.wpList_load_core rfl _ rfl w.heap.size 0 _ rfl q0x ?_)
      | (go_at_call 24; refine call0.mono ?_; clear call0; rintro e W2 ⟨rfl, hb2⟩; clear q0x; have q1y := HXy.out _ hb2; have call1 := Hwide.out _ hb2; clear hb2)
      | (refine wpList_load_val_want rfl _ rfl (w.heap.size + 1) 0 _ rfl q1y ?_)
      | (go_at_call 25; refine call1.mono ?_; clear call1; rintro e W3 ⟨rfl, hb3⟩; clear q1y; have Hb3 := Lib.hid hb3; clear hb3)
      | fail)
    go_ret
    exact ⟨rfl, HbW.out.trans (Hb3.out.mono HbW.out.size)⟩
  have e1 : decide (1048576 < a) = false := decide_eq_false d1
  by_cases d2 : b < 0
  · have e2 : decide (b < 0) = true := decide_eq_true d2
    clear d0 d1 d2
    go_enter Tryd.func5, Tryd.ntmps5
    go_upto_region 1 with fail
    rw [← hW]
    clear hW
    go_wp2_with (first
      | (go_at_call 8; refine (Haw.out _ (Below.refl _ _)).mono ?_; rintro e W1 ⟨rfl, hb1⟩; have q0x := HXx.out _ hb1; have call0 := Hbig.out _ hb1; clear hb1)
      | (refine K.wpList_load_core rfl _ rfl w.heap.size 0 _ rfl q0x ?_)
      | (go_at_call 24; refine call0.mono ?_; clear call0; rintro e W2 ⟨rfl, hb2⟩; clear q0x; have q1y := HXy.out _ hb2; have call1 := Hwide.out _ hb2; clear hb2)
      | (refine wpList_load_val_want rfl _ rfl (w.heap.size + 1) 0 _ rfl q1y ?_)
      | (go_at_call 25; refine call1.mono ?_; clear call1; rintro e W3 ⟨rfl, hb3⟩; clear q1y; have Hb3 := Lib.hid hb3; clear hb3)
      | fail)
    go_ret
    exact ⟨rfl, HbW.out.trans (Hb3.out.mono HbW.out.size)⟩
  have e2 : decide (b < 0) = false := decide_eq_false d2
  by_cases d3 : 1048576 < b
  · have e3 : decide (1048576 < b) = true := decide_eq_true d3
    clear d0 d1 d2 d3
    go_enter Tryd.func5, Tryd.ntmps5
    go_upto_region 1 with fail
    rw [← hW]
    clear hW
    go_wp2_with (first
      | (go_at_call 8; refine (Haw.out _ (Below.refl _ _)).mono ?_; rintro e W1 ⟨rfl, hb1⟩; have q0x := HXx.out _ hb1; have call0 := Hbig.out _ hb1; clear hb1)
      | (refine K.wpList_load_core rfl _ rfl w.heap.size 0 _ rfl q0x ?_)
      | (go_at_call 24; refine call0.mono ?_; clear call0; rintro e W2 ⟨rfl, hb2⟩; clear q0x; have q1y := HXy.out _ hb2; have call1 := Hwide.out _ hb2; clear hb2)
      | (refine wpList_load_val_want rfl _ rfl (w.heap.size + 1) 0 _ rfl q1y ?_)
      | (go_at_call 25; refine call1.mono ?_; clear call1; rintro e W3 ⟨rfl, hb3⟩; clear q1y; have Hb3 := Lib.hid hb3; clear hb3)
      | fail)
    go_ret
    exact ⟨rfl, HbW.out.trans (Hb3.out.mono HbW.out.size)⟩
  have e3 : decide (1048576 < b) = false := decide_eq_false d3
  cases B2 : goodV x y with
  | false =>
    rw [B2] at Hgood
    clear d0 d1 d2 d3
    go_enter Tryd.func5, Tryd.ntmps5
    go_upto_region 1 with fail
    rw [← hW]
    clear hW
    go_wp2_with (first
      | (go_at_call 8; refine (Haw.out _ (Below.refl _ _)).mono ?_; rintro e W1 ⟨rfl, hb1⟩; have q0x := HXx.out _ hb1; have call0 := Hbig.out _ hb1; clear hb1)
      | (refine K.wpList_load_core rfl _ rfl w.heap.size 0 _ rfl q0x ?_)
      | (go_at_call 24; refine call0.mono ?_; clear call0; rintro e W2 ⟨rfl, hb2⟩; clear q0x; have q1y := HXy.out _ hb2; have call1 := Hwide.out _ hb2; clear hb2)
      | (refine wpList_load_val_want rfl _ rfl (w.heap.size + 1) 0 _ rfl q1y ?_)
      | (go_at_call 25; refine call1.mono ?_; clear call1; rintro e W3 ⟨rfl, hb3⟩; clear q1y; have q2x := HXx.out _ hb3; have q2y := HXy.out _ hb3; have call2 := Hgood.out _ hb3; clear hb3)
      | (refine K.wpList_load_node_want rfl _ rfl w.heap.size 0 _ rfl q2x ?_)
      | (refine wpList_load_val_want rfl _ rfl (w.heap.size + 1) 0 _ rfl q2y ?_)
      | (go_at_call 32; refine call2.mono ?_; clear call2; rintro e W4 ⟨rfl, hb4⟩; clear q2x q2y; have Hb4 := Lib.hid hb4; clear hb4)
      | fail)
    go_ret
    exact ⟨rfl, HbW.out.trans (Hb4.out.mono HbW.out.size)⟩
  | true =>
  rw [B2] at Hgood
  have hwab : wrap64 (a + b) = a + b := by unfold wrap64; omega
  have hwan : wrap64 (a + (y.flat.length : Int)) = a + (y.flat.length : Int) := by have := Hfl.out; unfold wrap64; omega
  have Hof1 := Lib.hid (HofN.out a (by omega) (by omega) B2)
  have Hof2 := Lib.hid (HofN.out (a + b) (by omega) (by omega) B2)
  have hins := fun j h1 h2 => spans_inside B2 (a := a) (b := b) (by omega) (by omega) (by omega) (by omega) Hfl.out j h1 h2
  have h0 : ∀ h1, (spansL a (cap x y (a, none32)) 32)[0]'h1 = (a, a + (y.flat.length : Int)) := fun h1 => by
    rw [spansL_get, if_pos rfl]
    have hg := B2
    unfold goodV K.goodC at hg
    simp only [Bool.and_eq_true] at hg
    rw [cap_len _ x (Nat.le_refl _) hg.1.2 y (a, none32) hg.2]
    have h2 : wrap64 a = a := by unfold wrap64; omega
    rw [h2]
    show (a, wrap64 (a + (y.flat.length : Int))) = _
    rw [hwan]
  obtain ⟨la, hla⟩ : ∃ la, la = spansL a (cap x y (a, none32)) 32 := ⟨_, rfl⟩
  obtain ⟨lb, hlb⟩ : ∃ lb, lb = spansL (a + b) (cap x y (a + b, none32)) 32 := ⟨_, rfl⟩
  rw [← hla] at Hof1
  rw [← hlb] at Hof2
  have hll : la.length = 33 := by rw [hla, spansL_len]
  have hlm : lb.length = 33 := by rw [hlb, spansL_len]
  have hins' : ∀ j (h1 : j < la.length) (h2 : j < lb.length), (la[j]'h1 = (-1, -1) ∧ lb[j]'h2 = (-1, -1)) ∨ ∃ f t, la[j]'h1 = (f, t) ∧ lb[j]'h2 = (f + b, t + b) ∧ a ≤ f ∧ f ≤ t ∧ t ≤ a + (y.flat.length : Int) := by
    subst hla hlb; exact hins
  have h0' : ∀ h1 : 0 < la.length, la[0]'h1 = (a, a + (y.flat.length : Int)) := by subst hla; exact h0
  have Hs := Lib.hid (And.intro hins' (And.intro h0' (And.intro hll hlm)))
  have Hnum := Lib.hid (And.intro (show 0 ≤ a by omega) (And.intro (show a ≤ 1048576 by omega) (And.intro (show 0 ≤ b by omega) (And.intro (show b ≤ 1048576 by omega) (show (y.flat.length : Int) ≤ 1048576 by have := Hfl.out; omega)))))
  clear hins h0 hins' h0' hll hlm hla hlb d0 d1 d2 d3
  generalize (y.flat.length : Int) = n at *
  go_enter Tryd.func5, Tryd.ntmps5
  go_upto_region 1 with fail
  rw [← hW]
  clear hW
  go_upto_region 5 with (first
    | (go_at_call 8; refine (Haw.out _ (Below.refl _ _)).mono ?_; rintro e W1 ⟨rfl, hb1⟩; have q0x := HXx.out _ hb1; have call0 := Hbig.out _ hb1; clear hb1)
    | (refine K.wpList_load_core rfl _ rfl w.heap.size 0 _ rfl q0x ?_)
    | (go_at_call 24; refine call0.mono ?_; clear call0; rintro e W2 ⟨rfl, hb2⟩; clear q0x; have q1y := HXy.out _ hb2; have call1 := Hwide.out _ hb2; clear hb2)
    | (refine wpList_load_val_want rfl _ rfl (w.heap.size + 1) 0 _ rfl q1y ?_)
    | (go_at_call 25; refine call1.mono ?_; clear call1; rintro e W3 ⟨rfl, hb3⟩; clear q1y; have q2x := HXx.out _ hb3; have q2y := HXy.out _ hb3; have call2 := Hgood.out _ hb3; clear hb3)
    | (refine K.wpList_load_node_want rfl _ rfl w.heap.size 0 _ rfl q2x ?_)
    | (refine wpList_load_val_want rfl _ rfl (w.heap.size + 1) 0 _ rfl q2y ?_)
    | (go_at_call 32; refine call2.mono ?_; clear call2; rintro e W4 ⟨rfl, hb4⟩; clear q2x q2y; have Hb4 := Lib.hid hb4; clear hb4)
    | fail)
  have q3x := HXx.out _ Hb4.out
  have q3y := HXy.out _ Hb4.out
  go_upto_region 6 with (first
    | (refine K.wpList_load_core rfl _ rfl w.heap.size 0 _ rfl q3x ?_)
    | (refine wpList_load_val rfl _ rfl (w.heap.size + 1) 0 _ rfl q3y ?_)
    | (go_at_call 13; refine ((Hof1.out _ Hb4.out).mono (fun _ _ => SpPost.n Hs.out.2.2.1)).mono ?_; rintro e W5 ⟨pa, ca, rfl, hspa, hb5⟩; have H5 := Lib.hid (And.intro hspa (Hb4.out.trans (hb5.mono Hb4.out.size))); clear hspa hb5 q3x q3y)
    | fail)
  have q5x := HXx.out _ H5.out.2
  have q5y := HXy.out _ H5.out.2
  go_upto_region 7 with (first
    | (refine K.wpList_load_core rfl _ rfl w.heap.size 0 _ rfl q5x ?_)
    | (refine wpList_load_val rfl _ rfl (w.heap.size + 1) 0 _ rfl q5y ?_)
    | (go_at_call 13; refine ((Hof2.out _ H5.out.2).mono (fun _ _ => SpPost.n Hs.out.2.2.2)).mono ?_; rintro e W6 ⟨pb, cb, rfl, hspb, hb6⟩; have H6 := Lib.hid (And.intro (H5.out.1.below hb6) (And.intro hspb (H5.out.2.trans (hb6.mono H5.out.2.size)))); clear hspb hb6 q5x q5y)
    | fail)
  have hcells : ∀ w', Below W6.heap.size W6 w' → ∃ b1 o1, pa = some ⟨b1, o1, none⟩ ∧ 33 ≤ ca ∧ w'.cell? ⟨b1, o1, none⟩ = some (.int .i64 a) ∧ w'.cell? ⟨b1, o1 + 1, none⟩ = some (.int .i64 (a + n)) := fun w' h => by
    obtain ⟨b1, o1, e, hc, _, hcell⟩ := (H6.out.1.below h).2.resolve_left (by rw [Hs.out.2.2.1]; omega)
    have hg := hcell 0 (by rw [Hs.out.2.2.1]; omega)
    rw [Hs.out.2.1, Nat.zero_mul, Nat.add_zero] at hg
    rw [Hs.out.2.2.1] at hc
    exact ⟨b1, o1, e, hc, hg⟩
  obtain ⟨b1, o1, rfl, hca, _, _⟩ := hcells W6 (Below.refl _ _)
  have hcl : ∀ w', Below W6.heap.size W6 w' → w'.cell? ⟨b1, o1, none⟩ = some (.int .i64 a) ∧ w'.cell? ⟨b1, o1 + 1, none⟩ = some (.int .i64 (a + n)) := fun w' h => by
    obtain ⟨_, _, e, _, h1⟩ := hcells w' h
    injection e with e; injection e with e1 e2; subst e1 e2
    exact h1
  have hcaI : (33 : Int) ≤ ca := by omega
  have hboxv : ∀ w', Below W6.heap.size W6 w' → Val3 w' (w.heap.size + 1) 0 [.int .i64 k2, .int .u8 z2, .slice a2 len2 cap2] := fun w' h => HXy.out _ (H6.out.2.2.trans (h.mono H6.out.2.2.size))
  go_cut [87] from 60 to 87 (fun vv wx => vv = .bool false ∧ Below W6.heap.size W6 wx)
  case first =>
    have Hcl := Lib.hid hcl
    have Hbv := Lib.hid hboxv
    have hlenL : ∀ L : Later W6, Calls Tryd.prog 33 #[.agg #[.int .i64 k2, .int .u8 z2, .slice a2 len2 cap2]] L.val fun e w' => e = .returned (.int .i64 n) ∧ Below L.val.heap.size L.val w' := fun L => HlenB.out _ (H6.out.2.2.trans (L.ok.mono H6.out.2.2.size))
    clear hcl hboxv hcells
    have hnn : Nonempty (Later W6) := Later.nonempty W6
    refine wp_region_later (Below.refl _ _) (by kernel_rfl) (by kernel_rfl) ?_
    repeat (first
      | go_big_quiet_skip
      | (go_big_quiet_want; refine quiet_load_span _ rfl b1 o1 a (a + n) rfl (fun w' ⟨L, hL⟩ => hL ▸ Hcl.out _ L.ok) ?_; go_big_quiet_on; simp only [Act.put, List.setIfInBounds_toArray, List.set_cons_zero, List.set_cons_succ])
      | (go_big_quiet_want; refine quiet_load_val _ rfl (w.heap.size + 1) 0 [.int .i64 k2, .int .u8 z2, .slice a2 len2 cap2] rfl (fun w' ⟨L, hL⟩ => hL ▸ Hbv.out _ L.ok) ?_; go_big_quiet_on; simp only [Act.put, List.setIfInBounds_toArray, List.set_cons_zero, List.set_cons_succ])
      | go_big_quiet_step (fail)
      | go_big_quiet_step (exact Later.calls (hlenL _)))
    refine wpQuiet_nil ?_
    intro w' hw'
    obtain ⟨L', rfl⟩ := hw'
    go_step
    go_step
    go_meet
    exact ⟨rfl, L'.ok⟩
  case rest =>
  obtain ⟨rfl, hBc⟩ := hcut
  obtain ⟨w8, rfl⟩ : ∃ w8, w8 = wc := ⟨_, rfl⟩
  have H8 := Lib.hid (And.intro (H6.out.1.below hBc) (And.intro (H6.out.2.1.below hBc) (H6.out.2.2.trans (hBc.mono H6.out.2.2.size))))
  clear hBc hcl hboxv hcells
  go_wp2_with fail
  go_loopw [13] (fun i wr => ∃ j : Nat, i = .int .i64 j ∧ j ≤ 33 ∧ Hid (Below w8.heap.size w8 wr)) (fun i _ => 33 - (intOf i).toNat)
  case atStart => exact ⟨0, rfl, Nat.zero_le _, Lib.hid (Below.refl _ _)⟩
  case round =>
    obtain ⟨j, rfl, hj, hbr⟩ := hrel
    by_cases hjm : j < 33
    · have hd : decide ((j : Int) < 33) = true := by simp; omega
      obtain ⟨hins, h0, hll, hlm⟩ := Hs.out
      obtain ⟨hn1, hn2, hn3, hn4, hn5⟩ := Hnum.out
      have h1 : j < la.length := by omega
      have h2 : j < lb.length := by omega
      obtain ⟨_, _, e, _, _, hcell1⟩ := (H8.out.1).2.resolve_left (by omega)
      injection e with e; injection e with e1 e2; subst e1 e2
      obtain ⟨b2, o2, rfl, hc2, _, hcell2⟩ := (H8.out.2.1).2.resolve_left (by omega)
      have hlt1 : b1 < w8.heap.size := World.block_lt_of_cell? w8 _ (hcell1 j h1).1
      have hlt2 : b2 < w8.heap.size := World.block_lt_of_cell? w8 _ (hcell2 j h2).1
      have hca2 : (33 : Int) ≤ cb := by omega
      have g0 : ∀ w', Below wr.heap.size wr w' → w'.cell? ⟨b1, o1 + 1, none⟩ = some (.int .i64 (a + n)) := fun w' h => by
        have hb := hbr.out.trans (h.mono hbr.out.size)
        rw [hb.cell (p := ⟨b1, o1 + 1, none⟩) hlt1]
        have := (hcell1 0 (by omega)).2
        rw [h0, Nat.zero_mul, Nat.add_zero] at this
        exact this
      have hin := hins j h1 h2
      have gA : ∀ w', Below wr.heap.size wr w' → w'.cell? ⟨b1, o1 + j * 2, none⟩ = some (.int .i64 la[j].1) ∧ w'.cell? ⟨b1, o1 + j * 2 + 1, none⟩ = some (.int .i64 la[j].2) := fun w' h => by
        have hb := hbr.out.trans (h.mono hbr.out.size)
        rw [hb.cell (p := ⟨b1, o1 + j * 2, none⟩) hlt1, hb.cell (p := ⟨b1, o1 + j * 2 + 1, none⟩) hlt1]
        exact hcell1 j h1
      have gB : ∀ w', Below wr.heap.size wr w' → w'.cell? ⟨b2, o2 + j * 2, none⟩ = some (.int .i64 lb[j].1) ∧ w'.cell? ⟨b2, o2 + j * 2 + 1, none⟩ = some (.int .i64 lb[j].2) := fun w' h => by
        have hb := hbr.out.trans (h.mono hbr.out.size)
        rw [hb.cell (p := ⟨b2, o2 + j * 2, none⟩) hlt2, hb.cell (p := ⟨b2, o2 + j * 2 + 1, none⟩) hlt2]
        exact hcell2 j h2
      generalize la[j] = pA at *
      generalize lb[j] = pB at *
      obtain ⟨f, t⟩ := pA
      obtain ⟨f2, t2⟩ := pB
      have HcA : Hid (∀ w', Below wr.heap.size wr w' → w'.cell? ⟨b1, o1 + j * 2, none⟩ = some (.int .i64 f) ∧ w'.cell? ⟨b1, o1 + j * 2 + 1, none⟩ = some (.int .i64 t)) := Lib.hid gA
      have HcB : Hid (∀ w', Below wr.heap.size wr w' → w'.cell? ⟨b2, o2 + j * 2, none⟩ = some (.int .i64 f2) ∧ w'.cell? ⟨b2, o2 + j * 2 + 1, none⟩ = some (.int .i64 t2)) := Lib.hid gB
      have p0 : wr.cell? ⟨b1, o1 + j * 2, none⟩ = some (.int .i64 f) := (HcA.out wr (Below.refl _ _)).1
      have kA0 : ∀ L : Later wr, L.val.cell? ⟨b1, o1 + j * 2, none⟩ = some (.int .i64 f) := fun L => (HcA.out _ L.ok).1
      have kA1 : ∀ L : Later wr, L.val.cell? ⟨b1, o1 + j * 2 + 1, none⟩ = some (.int .i64 t) := fun L => (HcA.out _ L.ok).2
      have k0 : ∀ L : Later wr, L.val.cell? ⟨b1, o1 + 1, none⟩ = some (.int .i64 (a + n)) := fun L => g0 _ L.ok
      have hnn : Nonempty (Later wr) := Later.nonempty wr
      have jb : (j : Int) < 33 := by omega
      have hd2 : decide (j < 33) = true := by simp; omega
      have Hin := Lib.hid hin
      clear hins h0 hll hlm h1 h2 hcell1 hcell2 hc2 hlt1 hlt2 g0 gA gB hin
      rcases Hin.out with ⟨e1, e2⟩ | ⟨f', t', e1, e2, i1, i2, i3⟩
      · injection e1 with e1 e1'
        injection e2 with e2 e2'
        subst e1 e1' e2 e2'
        clear hn1 hn2 hn3 hn4 hn5
        go_upto_region 13 with fail
        refine wp_region_later (Below.refl _ _) (by kernel_rfl) (by kernel_rfl) ?_
        repeat (first
          | go_big_quiet_skip
          | (go_big_quiet_want; refine quiet_load_span _ rfl b1 (o1 + j * 2) (-1) (-1) rfl (fun w' ⟨L, hL⟩ => hL ▸ HcA.out _ L.ok) ?_; go_big_quiet_on; simp only [Act.put, List.setIfInBounds_toArray, List.set_cons_zero, List.set_cons_succ])
          | (go_big_quiet_want; refine quiet_load_span _ rfl b2 (o2 + j * 2) (-1) (-1) rfl (fun w' ⟨L, hL⟩ => hL ▸ HcB.out _ L.ok) ?_; go_big_quiet_on; simp only [Act.put, List.setIfInBounds_toArray, List.set_cons_zero, List.set_cons_succ])
          | go_big_quiet_step (fail))
        refine wpQuiet_nil ?_
        intro w' hw'
        obtain ⟨L', rfl⟩ := hw'
        go_wp2_with fail
        go_roundw
        case rel => exact ⟨j + 1, by go_num, by omega, Lib.hid (hbr.out.trans (L'.ok.mono hbr.out.size))⟩
        case measure => simp [intOf]; omega
      · injection e1 with e1 e1'
        injection e2 with e2 e2'
        subst e1 e1' e2 e2'
        have hf1 : (f == -1) = false := by rw [beq_eq_false_iff_ne]; omega
        have c1 : decide (f < a) = false := decide_eq_false (by omega)
        have c2 : decide (t < f) = false := decide_eq_false (by omega)
        have c3 : decide (a + n < t) = false := decide_eq_false (by omega)
        have c4 : wrap64 (f + b) = f + b := by unfold wrap64; omega
        have c5 : wrap64 (t + b) = t + b := by unfold wrap64; omega
        clear hn1 hn2 hn3 hn4 hn5 i1 i2 i3
        go_upto_region 15 with fail
        refine wp_region_later (Below.refl _ _) (by kernel_rfl) (by kernel_rfl) ?_
        repeat (first
          | go_big_quiet_skip
          | (go_big_quiet_want; refine quiet_load_span _ rfl b1 (o1 + j * 2) f t rfl (fun w' ⟨L, hL⟩ => hL ▸ HcA.out _ L.ok) ?_; go_big_quiet_on; simp only [Act.put, List.setIfInBounds_toArray, List.set_cons_zero, List.set_cons_succ])
          | (go_big_quiet_want; refine quiet_load_span _ rfl b2 (o2 + j * 2) (f + b) (t + b) rfl (fun w' ⟨L, hL⟩ => hL ▸ HcB.out _ L.ok) ?_; go_big_quiet_on; simp only [Act.put, List.setIfInBounds_toArray, List.set_cons_zero, List.set_cons_succ])
          | go_big_quiet_step (fail))
        refine wpQuiet_nil ?_
        intro w' hw'
        obtain ⟨L', rfl⟩ := hw'
        go_wp2_with fail
        go_roundw
        case rel => exact ⟨j + 1, by go_num, by omega, Lib.hid (hbr.out.trans (L'.ok.mono hbr.out.size))⟩
        case measure => simp [intOf]; omega
    · have hd : decide ((j : Int) < 33) = false := by simp; omega
      go_wp2_with fail
      go_ret
      exact ⟨rfl, HbW.out.trans ((H8.out.2.2.trans (hbr.out.mono H8.out.2.2.size)).mono HbW.out.size)⟩

end V
end Go.Proofs.YtonhmjfopidacaaDoor
