/- The law CapsRows, walked: any two cores, any two values of at most so many parts. -/
import Derived.Test.YtonhmjfopidacaaDoorCapsRows
import Derived.Test.YtonhmjfopidacaaDoorHoldKit
import Derived.Test.YtonhmjfopidacaaDoorWords
namespace Go.Proofs.YtonhmjfopidacaaDoor
namespace V
set_option maxRecDepth 100000
open Go.RowKit
/-- a list of numbers that a call has made, place by place -/
theorem ints_open {w : World} {base : Nat} {a : Option Addr} {cap : Nat} {l : List Int} (h : w.ownsRow base 3 1 (.slice a l.length cap) l.length (K.intCells l)) :
    l.length ≤ 9223372036854775807 ∧ (l.length = 0 ∨ ∃ b, a = some ⟨b, 0, none⟩ ∧ l.length ≤ cap ∧ b < w.heap.size ∧ ∀ j (hj : j < l.length), w.cell? ⟨b, j, none⟩ = some (.int .i64 l[j])) := by
  rcases h.2 with ⟨_, h0⟩ | ⟨g, cap', cur, hv, hb, hg, hc, hm, hs, htake⟩
  · exact ⟨by omega, .inl h0⟩
  · cases hv
    refine ⟨by unfold maxLen at hm; omega, .inr ⟨g, rfl, hc, (Array.getElem?_eq_some_iff.1 hg).1, fun j hj => ?_⟩⟩
    have := h.cells (g := g) rfl j (.int .i64 l[j]) (by unfold K.intCells; rw [List.getElem?_map, List.getElem?_eq_getElem hj]; rfl)
    rw [addr_at] at this
    rw [Nat.zero_add] at this
    exact this
set_option maxHeartbeats 32000000 in
theorem capsRows_walk (x : K.Cr) (cs : List Value) (x2 : K.Cr) (es : List Value) (y : Vl) (ds : List Value) (y2 : Vl) (fs : List Value) (w : World) (hx : K.Cr.at w x cs) (hx2 : K.Cr.at w x2 es) (hy : Vl.at w y ds) (hy2 : Vl.at w y2 fs) (hsm : y.count ≤ 1048576) (_hsm2 : y2.count ≤ 1048576) (hP : PowAt w) :
    Calls Tryd.prog 6 #[.agg cs.toArray, .agg es.toArray, .agg ds.toArray, .agg fs.toArray] w fun e w' => e = .returned (.bool true) ∧ Below w.heap.size w w' := by
  obtain ⟨W, hW⟩ : ∃ W, W = (((w.alloc (.cells cs.toArray 28)).alloc (.cells es.toArray 28)).alloc (.cells ds.toArray 39)).alloc (.cells fs.toArray 39) := ⟨_, rfl⟩
  have hbW : Below w.heap.size w W := by rw [hW]; exact (((((Below.refl _ _).alloc (Nat.le_refl _) _).alloc (by simp) _).alloc (by simp; omega) _).alloc (by simp; omega) _)
  have hsW : W.heap.size = w.heap.size + 4 := by rw [hW]; simp
  have hxx : K.Core7 W w.heap.size 0 cs := by
    have h := World.alloc_heap_new w (.cells cs.toArray 28)
    rw [hW]
    exact core7_below (K.core7_in h (K.at_len hx)) (B := w.heap.size + 1) (by omega) ((((Below.refl _ _).alloc (by first | (simp; done) | (simp; omega)) _).alloc (by first | (simp; done) | (simp; omega)) _).alloc (by first | (simp; done) | (simp; omega)) _)
  have hxx2 : K.Core7 W (w.heap.size + 1) 0 es := by
    have h := World.alloc_heap_new (w.alloc (.cells cs.toArray 28)) (.cells es.toArray 28)
    rw [World.size_alloc] at h
    rw [hW]
    exact core7_below (K.core7_in h (K.at_len hx2)) (B := w.heap.size + 2) (by omega) (((Below.refl _ _).alloc (by first | (simp; done) | (simp; omega)) _).alloc (by first | (simp; done) | (simp; omega)) _)
  have hxy : Val3 W (w.heap.size + 2) 0 ds := by
    have h := World.alloc_heap_new ((w.alloc (.cells cs.toArray 28)).alloc (.cells es.toArray 28)) (.cells ds.toArray 39)
    rw [World.size_alloc, World.size_alloc] at h
    rw [hW]
    exact Val3.below (val3_in h (at_len hy)) (B := w.heap.size + 3) (by omega) ((Below.refl _ _).alloc (by first | (simp; done) | (simp; omega)) _)
  have hxy2 : Val3 W (w.heap.size + 3) 0 fs := by
    have h := World.alloc_heap_new (((w.alloc (.cells cs.toArray 28)).alloc (.cells es.toArray 28)).alloc (.cells ds.toArray 39)) (.cells fs.toArray 39)
    rw [World.size_alloc, World.size_alloc, World.size_alloc] at h
    rw [hW]
    exact (val3_in h (at_len hy2))
  have HXx : Hid (∀ w', Below W.heap.size W w' → K.Core7 w' w.heap.size 0 cs) := Lib.hid fun w' h => core7_below hxx (by omega) h
  have HAx : Hid (∀ w', Below W.heap.size W w' → K.Cr.at w' x cs) := Lib.hid fun w' h => K.Cr.at_below (hbW.trans (h.mono hbW.size)) (Nat.le_refl _) _ _ hx
  have HXx2 : Hid (∀ w', Below W.heap.size W w' → K.Core7 w' (w.heap.size + 1) 0 es) := Lib.hid fun w' h => core7_below hxx2 (by omega) h
  have HAx2 : Hid (∀ w', Below W.heap.size W w' → K.Cr.at w' x2 es) := Lib.hid fun w' h => K.Cr.at_below (hbW.trans (h.mono hbW.size)) (Nat.le_refl _) _ _ hx2
  have HXy : Hid (∀ w', Below W.heap.size W w' → Val3 w' (w.heap.size + 2) 0 ds) := Lib.hid fun w' h => Val3.below hxy (by omega) h
  have HAy : Hid (∀ w', Below W.heap.size W w' → Vl.at w' y ds) := Lib.hid fun w' h => Vl.at_below (hbW.trans (h.mono hbW.size)) (Nat.le_refl _) _ _ hy
  have HXy2 : Hid (∀ w', Below W.heap.size W w' → Val3 w' (w.heap.size + 3) 0 fs) := Lib.hid fun w' h => Val3.below hxy2 (by omega) h
  have HAy2 : Hid (∀ w', Below W.heap.size W w' → Vl.at w' y2 fs) := Lib.hid fun w' h => Vl.at_below (hbW.trans (h.mono hbW.size)) (Nat.le_refl _) _ _ hy2
  have HbW := Lib.hid hbW
  have HsW := Lib.hid hsW
  clear hbW hsW hxx hxx2 hxy hxy2
  have Haw : Hid (∀ w', Below W.heap.size W w' → Calls Tryd.prog 8 #[] w' fun e w' => e = .returned (.bool true) ∧ Below W.heap.size W w') := Lib.hid fun w' h => by
    refine (awake12_any w' (pow_below hP (HbW.out.trans (h.mono HbW.out.size)))).mono ?_
    rintro e w3 ⟨rfl, hb⟩
    exact ⟨rfl, h.trans (hb.mono h.size)⟩
  have Hbigx : Hid (∀ w', Below W.heap.size W w' → Calls Tryd.prog 24 #[.agg cs.toArray, .int .i64 50] w' fun e w' => e = .returned (.bool (K.bigN 50 x)) ∧ Below W.heap.size W w') := Lib.hid fun w' h => by
    refine (K.big_any 50 x cs w' (by decide) (HAx.out _ h)).mono ?_
    rintro e w3 ⟨rfl, hb⟩
    exact ⟨rfl, h.trans (hb.mono h.size)⟩
  have Hbigd : Hid (∀ w', Below W.heap.size W w' → Calls Tryd.prog 24 #[.agg es.toArray, .int .i64 50] w' fun e w' => e = .returned (.bool (K.bigN 50 x2)) ∧ Below W.heap.size W w') := Lib.hid fun w' h => by
    refine (K.big_any 50 x2 es w' (by decide) (HAx2.out _ h)).mono ?_
    rintro e w3 ⟨rfl, hb⟩
    exact ⟨rfl, h.trans (hb.mono h.size)⟩
  have Hwidev : Hid (∀ w', Below W.heap.size W w' → Calls Tryd.prog 25 #[.agg ds.toArray, .int .i64 30] w' fun e w' => e = .returned (.bool (wideN 30 y)) ∧ Below W.heap.size W w') := Lib.hid fun w' h => by
    refine (wide_any 30 y ds w' (by decide) (HAy.out _ h)).mono ?_
    rintro e w3 ⟨rfl, hb⟩
    exact ⟨rfl, h.trans (hb.mono h.size)⟩
  have Hwideu : Hid (∀ w', Below W.heap.size W w' → Calls Tryd.prog 25 #[.agg fs.toArray, .int .i64 30] w' fun e w' => e = .returned (.bool (wideN 30 y2)) ∧ Below W.heap.size W w') := Lib.hid fun w' h => by
    refine (wide_any 30 y2 fs w' (by decide) (HAy2.out _ h)).mono ?_
    rintro e w3 ⟨rfl, hb⟩
    exact ⟨rfl, h.trans (hb.mono h.size)⟩
  have Hgoodv : Hid (∀ w', Below W.heap.size W w' → Calls Tryd.prog 32 #[.agg cs.toArray, .agg ds.toArray] w' fun e w' => e = .returned (.bool (goodV x y)) ∧ Below W.heap.size W w') := Lib.hid fun w' h => by
    refine (good_any (HAx.out _ h) (HAy.out _ h)).mono ?_
    rintro e w3 ⟨rfl, hb⟩
    exact ⟨rfl, h.trans (hb.mono h.size)⟩
  have Hgoodu : Hid (∀ w', Below W.heap.size W w' → Calls Tryd.prog 32 #[.agg es.toArray, .agg fs.toArray] w' fun e w' => e = .returned (.bool (goodV x2 y2)) ∧ Below W.heap.size W w') := Lib.hid fun w' h => by
    refine (good_any (HAx2.out _ h) (HAy2.out _ h)).mono ?_
    rintro e w3 ⟨rfl, hb⟩
    exact ⟨rfl, h.trans (hb.mono h.size)⟩
  have HlenB : Hid (∀ w', Below W.heap.size W w' → Calls Tryd.prog 33 #[.agg ds.toArray] w' fun e w2 => e = .returned (.int .i64 (y.flat.length : Int)) ∧ Below w'.heap.size w' w2) := Lib.hid fun w' h => len12 (HAy.out _ h) hsm
  have Hfl := Lib.hid (show y.flat.length ≤ 1048576 by have := flat_le y; omega)
  obtain ⟨k1, s1, n1, a1, len1, cap1, rfl⟩ := K.at_lit hx
  obtain ⟨k3, s3, n3, a3, len3, cap3, rfl⟩ := K.at_lit hx2
  obtain ⟨k2, z2, a2, len2, cap2, rfl⟩ := at_lit hy
  obtain ⟨k4, z4, a4, len4, cap4, rfl⟩ := at_lit hy2
  clear hx hy hx2 hy2 hP hsm
  cases B0 : K.bigN 50 x with
  | true =>
    rw [B0] at Hbigx
    go_enter Tryd.func6, Tryd.ntmps6
    go_upto_region 1 with fail
    rw [← hW]
    clear hW
    go_wp2_with (first
      | (go_at_call 8; refine (Haw.out _ (Below.refl _ _)).mono ?_; rintro e W1 ⟨rfl, hb1⟩; have q0x := HXx.out _ hb1; have call0 := Hbigx.out _ hb1; clear hb1)
      | (refine K.wpList_load_core rfl _ rfl w.heap.size 0 _ rfl q0x ?_)
      | (go_at_call 24; refine call0.mono ?_; clear call0; rintro e W2 ⟨rfl, hb2⟩; clear q0x; have Hb2 := Lib.hid hb2; clear hb2)
      | fail)
    go_ret
    exact ⟨rfl, HbW.out.trans (Hb2.out.mono HbW.out.size)⟩
  | false =>
  rw [B0] at Hbigx
  cases B1 : K.bigN 50 x2 with
  | true =>
    rw [B1] at Hbigd
    go_enter Tryd.func6, Tryd.ntmps6
    go_upto_region 1 with fail
    rw [← hW]
    clear hW
    go_wp2_with (first
      | (go_at_call 8; refine (Haw.out _ (Below.refl _ _)).mono ?_; rintro e W1 ⟨rfl, hb1⟩; have q0x := HXx.out _ hb1; have call0 := Hbigx.out _ hb1; clear hb1)
      | (refine K.wpList_load_core rfl _ rfl w.heap.size 0 _ rfl q0x ?_)
      | (go_at_call 24; refine call0.mono ?_; clear call0; rintro e W2 ⟨rfl, hb2⟩; clear q0x; have q1x2 := HXx2.out _ hb2; have call1 := Hbigd.out _ hb2; clear hb2)
      | (refine K.wpList_load_node_want rfl _ rfl (w.heap.size + 1) 0 _ rfl q1x2 ?_)
      | (go_at_call 24; refine call1.mono ?_; clear call1; rintro e W3 ⟨rfl, hb3⟩; clear q1x2; have Hb3 := Lib.hid hb3; clear hb3)
      | fail)
    go_ret
    exact ⟨rfl, HbW.out.trans (Hb3.out.mono HbW.out.size)⟩
  | false =>
  rw [B1] at Hbigd
  cases B2 : wideN 30 y with
  | true =>
    rw [B2] at Hwidev
    go_enter Tryd.func6, Tryd.ntmps6
    go_upto_region 1 with fail
    rw [← hW]
    clear hW
    go_wp2_with (first
      | (go_at_call 8; refine (Haw.out _ (Below.refl _ _)).mono ?_; rintro e W1 ⟨rfl, hb1⟩; have q0x := HXx.out _ hb1; have call0 := Hbigx.out _ hb1; clear hb1)
      | (refine K.wpList_load_core rfl _ rfl w.heap.size 0 _ rfl q0x ?_)
      | (go_at_call 24; refine call0.mono ?_; clear call0; rintro e W2 ⟨rfl, hb2⟩; clear q0x; have q1x2 := HXx2.out _ hb2; have call1 := Hbigd.out _ hb2; clear hb2)
      | (refine K.wpList_load_node_want rfl _ rfl (w.heap.size + 1) 0 _ rfl q1x2 ?_)
      | (go_at_call 24; refine call1.mono ?_; clear call1; rintro e W3 ⟨rfl, hb3⟩; clear q1x2; have q2y := HXy.out _ hb3; have call2 := Hwidev.out _ hb3; clear hb3)
      | (refine wpList_load_val_want rfl _ rfl (w.heap.size + 2) 0 _ rfl q2y ?_)
      | (go_at_call 25; refine call2.mono ?_; clear call2; rintro e W4 ⟨rfl, hb4⟩; clear q2y; have Hb4 := Lib.hid hb4; clear hb4)
      | fail)
    go_ret
    exact ⟨rfl, HbW.out.trans (Hb4.out.mono HbW.out.size)⟩
  | false =>
  rw [B2] at Hwidev
  cases B3 : wideN 30 y2 with
  | true =>
    rw [B3] at Hwideu
    go_enter Tryd.func6, Tryd.ntmps6
    go_upto_region 1 with fail
    rw [← hW]
    clear hW
    go_wp2_with (first
      | (go_at_call 8; refine (Haw.out _ (Below.refl _ _)).mono ?_; rintro e W1 ⟨rfl, hb1⟩; have q0x := HXx.out _ hb1; have call0 := Hbigx.out _ hb1; clear hb1)
      | (refine K.wpList_load_core rfl _ rfl w.heap.size 0 _ rfl q0x ?_)
      | (go_at_call 24; refine call0.mono ?_; clear call0; rintro e W2 ⟨rfl, hb2⟩; clear q0x; have q1x2 := HXx2.out _ hb2; have call1 := Hbigd.out _ hb2; clear hb2)
      | (refine K.wpList_load_node_want rfl _ rfl (w.heap.size + 1) 0 _ rfl q1x2 ?_)
      | (go_at_call 24; refine call1.mono ?_; clear call1; rintro e W3 ⟨rfl, hb3⟩; clear q1x2; have q2y := HXy.out _ hb3; have call2 := Hwidev.out _ hb3; clear hb3)
      | (refine wpList_load_val_want rfl _ rfl (w.heap.size + 2) 0 _ rfl q2y ?_)
      | (go_at_call 25; refine call2.mono ?_; clear call2; rintro e W4 ⟨rfl, hb4⟩; clear q2y; have q3y2 := HXy2.out _ hb4; have call3 := Hwideu.out _ hb4; clear hb4)
      | (refine wpList_load_val_want rfl _ rfl (w.heap.size + 3) 0 _ rfl q3y2 ?_)
      | (go_at_call 25; refine call3.mono ?_; clear call3; rintro e W5 ⟨rfl, hb5⟩; clear q3y2; have Hb5 := Lib.hid hb5; clear hb5)
      | fail)
    go_ret
    exact ⟨rfl, HbW.out.trans (Hb5.out.mono HbW.out.size)⟩
  | false =>
  rw [B3] at Hwideu
  cases B4 : goodV x y with
  | false =>
    rw [B4] at Hgoodv
    go_enter Tryd.func6, Tryd.ntmps6
    go_upto_region 1 with fail
    rw [← hW]
    clear hW
    go_wp2_with (first
      | (go_at_call 8; refine (Haw.out _ (Below.refl _ _)).mono ?_; rintro e W1 ⟨rfl, hb1⟩; have q0x := HXx.out _ hb1; have call0 := Hbigx.out _ hb1; clear hb1)
      | (refine K.wpList_load_core rfl _ rfl w.heap.size 0 _ rfl q0x ?_)
      | (go_at_call 24; refine call0.mono ?_; clear call0; rintro e W2 ⟨rfl, hb2⟩; clear q0x; have q1x2 := HXx2.out _ hb2; have call1 := Hbigd.out _ hb2; clear hb2)
      | (refine K.wpList_load_node_want rfl _ rfl (w.heap.size + 1) 0 _ rfl q1x2 ?_)
      | (go_at_call 24; refine call1.mono ?_; clear call1; rintro e W3 ⟨rfl, hb3⟩; clear q1x2; have q2y := HXy.out _ hb3; have call2 := Hwidev.out _ hb3; clear hb3)
      | (refine wpList_load_val_want rfl _ rfl (w.heap.size + 2) 0 _ rfl q2y ?_)
      | (go_at_call 25; refine call2.mono ?_; clear call2; rintro e W4 ⟨rfl, hb4⟩; clear q2y; have q3y2 := HXy2.out _ hb4; have call3 := Hwideu.out _ hb4; clear hb4)
      | (refine wpList_load_val_want rfl _ rfl (w.heap.size + 3) 0 _ rfl q3y2 ?_)
      | (go_at_call 25; refine call3.mono ?_; clear call3; rintro e W5 ⟨rfl, hb5⟩; clear q3y2; have q4x := HXx.out _ hb5; have q4y := HXy.out _ hb5; have call4 := Hgoodv.out _ hb5; clear hb5)
      | (refine K.wpList_load_node_want rfl _ rfl w.heap.size 0 _ rfl q4x ?_)
      | (refine wpList_load_val_want rfl _ rfl (w.heap.size + 2) 0 _ rfl q4y ?_)
      | (go_at_call 32; refine call4.mono ?_; clear call4; rintro e W6 ⟨rfl, hb6⟩; clear q4x q4y; have Hb6 := Lib.hid hb6; clear hb6)
      | fail)
    go_ret
    exact ⟨rfl, HbW.out.trans (Hb6.out.mono HbW.out.size)⟩
  | true =>
  rw [B4] at Hgoodv
  cases B5 : goodV x2 y2 with
  | false =>
    rw [B5] at Hgoodu
    go_enter Tryd.func6, Tryd.ntmps6
    go_upto_region 1 with fail
    rw [← hW]
    clear hW
    go_wp2_with (first
      | (go_at_call 8; refine (Haw.out _ (Below.refl _ _)).mono ?_; rintro e W1 ⟨rfl, hb1⟩; have q0x := HXx.out _ hb1; have call0 := Hbigx.out _ hb1; clear hb1)
      | (refine K.wpList_load_core rfl _ rfl w.heap.size 0 _ rfl q0x ?_)
      | (go_at_call 24; refine call0.mono ?_; clear call0; rintro e W2 ⟨rfl, hb2⟩; clear q0x; have q1x2 := HXx2.out _ hb2; have call1 := Hbigd.out _ hb2; clear hb2)
      | (refine K.wpList_load_node_want rfl _ rfl (w.heap.size + 1) 0 _ rfl q1x2 ?_)
      | (go_at_call 24; refine call1.mono ?_; clear call1; rintro e W3 ⟨rfl, hb3⟩; clear q1x2; have q2y := HXy.out _ hb3; have call2 := Hwidev.out _ hb3; clear hb3)
      | (refine wpList_load_val_want rfl _ rfl (w.heap.size + 2) 0 _ rfl q2y ?_)
      | (go_at_call 25; refine call2.mono ?_; clear call2; rintro e W4 ⟨rfl, hb4⟩; clear q2y; have q3y2 := HXy2.out _ hb4; have call3 := Hwideu.out _ hb4; clear hb4)
      | (refine wpList_load_val_want rfl _ rfl (w.heap.size + 3) 0 _ rfl q3y2 ?_)
      | (go_at_call 25; refine call3.mono ?_; clear call3; rintro e W5 ⟨rfl, hb5⟩; clear q3y2; have q4x := HXx.out _ hb5; have q4y := HXy.out _ hb5; have call4 := Hgoodv.out _ hb5; clear hb5)
      | (refine K.wpList_load_node_want rfl _ rfl w.heap.size 0 _ rfl q4x ?_)
      | (refine wpList_load_val_want rfl _ rfl (w.heap.size + 2) 0 _ rfl q4y ?_)
      | (go_at_call 32; refine call4.mono ?_; clear call4; rintro e W6 ⟨rfl, hb6⟩; clear q4x q4y; have q5x2 := HXx2.out _ hb6; have q5y2 := HXy2.out _ hb6; have call5 := Hgoodu.out _ hb6; clear hb6)
      | (refine K.wpList_load_node_want rfl _ rfl (w.heap.size + 1) 0 _ rfl q5x2 ?_)
      | (refine wpList_load_val_want rfl _ rfl (w.heap.size + 3) 0 _ rfl q5y2 ?_)
      | (go_at_call 32; refine call5.mono ?_; clear call5; rintro e W7 ⟨rfl, hb7⟩; clear q5x2 q5y2; have Hb7 := Lib.hid hb7; clear hb7)
      | fail)
    go_ret
    exact ⟨rfl, HbW.out.trans (Hb7.out.mono HbW.out.size)⟩
  | true =>
  rw [B5] at Hgoodu
  cases B6 : K.goodC (.mk 3 0 0 [x, x2]) with
  | false =>
    go_enter Tryd.func6, Tryd.ntmps6
    go_upto_region 1 with fail
    rw [← hW]
    clear hW
    go_wp2_with (first
      | (go_at_call 8; refine (Haw.out _ (Below.refl _ _)).mono ?_; rintro e W1 ⟨rfl, hb1⟩; have q0x := HXx.out _ hb1; have call0 := Hbigx.out _ hb1; clear hb1)
      | (refine K.wpList_load_core rfl _ rfl w.heap.size 0 _ rfl q0x ?_)
      | (go_at_call 24; refine call0.mono ?_; clear call0; rintro e W2 ⟨rfl, hb2⟩; clear q0x; have q1x2 := HXx2.out _ hb2; have call1 := Hbigd.out _ hb2; clear hb2)
      | (refine K.wpList_load_node_want rfl _ rfl (w.heap.size + 1) 0 _ rfl q1x2 ?_)
      | (go_at_call 24; refine call1.mono ?_; clear call1; rintro e W3 ⟨rfl, hb3⟩; clear q1x2; have q2y := HXy.out _ hb3; have call2 := Hwidev.out _ hb3; clear hb3)
      | (refine wpList_load_val_want rfl _ rfl (w.heap.size + 2) 0 _ rfl q2y ?_)
      | (go_at_call 25; refine call2.mono ?_; clear call2; rintro e W4 ⟨rfl, hb4⟩; clear q2y; have q3y2 := HXy2.out _ hb4; have call3 := Hwideu.out _ hb4; clear hb4)
      | (refine wpList_load_val_want rfl _ rfl (w.heap.size + 3) 0 _ rfl q3y2 ?_)
      | (go_at_call 25; refine call3.mono ?_; clear call3; rintro e W5 ⟨rfl, hb5⟩; clear q3y2; have q4x := HXx.out _ hb5; have q4y := HXy.out _ hb5; have call4 := Hgoodv.out _ hb5; clear hb5)
      | (refine K.wpList_load_node_want rfl _ rfl w.heap.size 0 _ rfl q4x ?_)
      | (refine wpList_load_val_want rfl _ rfl (w.heap.size + 2) 0 _ rfl q4y ?_)
      | (go_at_call 32; refine call4.mono ?_; clear call4; rintro e W6 ⟨rfl, hb6⟩; clear q4x q4y; have q5x2 := HXx2.out _ hb6; have q5y2 := HXy2.out _ hb6; have call5 := Hgoodu.out _ hb6; clear hb6)
      | (refine K.wpList_load_node_want rfl _ rfl (w.heap.size + 1) 0 _ rfl q5x2 ?_)
      | (refine wpList_load_val_want rfl _ rfl (w.heap.size + 3) 0 _ rfl q5y2 ?_)
      | (go_at_call 32; refine call5.mono ?_; clear call5; rintro e W7 ⟨rfl, hb7⟩; clear q5x2 q5y2; have Hb7 := Lib.hid hb7; clear hb7)
      | (refine K.wpList_load_node_want rfl _ rfl w.heap.size 0 _ rfl (HXx.out _ Hb7.out) ?_)
      | (refine K.wpList_load_node_want rfl _ rfl (w.heap.size + 1) 0 _ rfl (HXx2.out _ Hb7.out) ?_)
      | (go_at_call 19; refine (K.seq_walk (HAx.out _ Hb7.out) (HAx2.out _ Hb7.out)).mono ?_; rintro e W8 ⟨zs8, rfl, hat8, hb8⟩; have H8 := Lib.hid (And.intro hat8 (Hb7.out.trans (hb8.mono Hb7.out.size))); clear hat8 hb8)
      | (go_at_call 34; refine (K.good_walk H8.out.1).mono ?_; rw [B6]; rintro e W9 ⟨rfl, hb9⟩; have Hb9 := Lib.hid (H8.out.2.trans (hb9.mono H8.out.2.size)); clear hb9)
      | fail)
    go_ret
    exact ⟨rfl, HbW.out.trans (Hb9.out.mono HbW.out.size)⟩
  | true =>
  have Hgr := Lib.hid (good_row B6 B4 B5)
  have Hg : Hid (K.goodC x = true ∧ K.goodC x2 = true) := Lib.hid (by
    have h1 := B4
    have h2 := B5
    unfold goodV at h1 h2
    rw [Bool.and_eq_true] at h1 h2
    exact ⟨h1.1, h2.1⟩)
  have Hof1 : Hid (∀ w', Below W.heap.size W w' → Calls Tryd.prog 13 #[.agg [.int .i64 k1, .int .u64 (word s1 0), .int .u64 (word s1 1), .int .u64 (word s1 2), .int .u64 (word s1 3), .int .i64 n1, .slice a1 len1 cap1].toArray, .agg [.int .i64 k2, .int .u8 z2, .slice a2 len2 cap2].toArray, .int .i64 0, .int .i64 32] w' (SpPost w' (spansL 0 (cap x y (0, none32)) 32) 0)) := Lib.hid fun w' h => of_ok (HAx.out _ h) (HAy.out _ h) 0 32 ⟨by decide, by decide, by decide⟩ B4
  have Hof2 : Hid (∀ w', Below W.heap.size W w' → Calls Tryd.prog 13 #[.agg [.int .i64 k3, .int .u64 (word s3 0), .int .u64 (word s3 1), .int .u64 (word s3 2), .int .u64 (word s3 3), .int .i64 n3, .slice a3 len3 cap3].toArray, .agg [.int .i64 k4, .int .u8 z4, .slice a4 len4 cap4].toArray, .int .i64 (y.flat.length : Int), .int .i64 32] w' (SpPost w' (spansL (y.flat.length : Int) (cap x2 y2 ((y.flat.length : Int), none32)) 32) 0)) := Lib.hid fun w' h => of_ok (HAx2.out _ h) (HAy2.out _ h) _ 32 ⟨by omega, by have := Hfl.out; omega, by decide⟩ B5
  have hrows := fun hap j h0 h1 h2 h3 => spans_rows B4 B5 Hfl.out hap j h0 h1 h2 h3
  obtain ⟨la, hla⟩ : ∃ la, la = spansL 0 (cap x y (0, none32)) 32 := ⟨_, rfl⟩
  obtain ⟨lb, hlb⟩ : ∃ lb, lb = spansL (y.flat.length : Int) (cap x2 y2 ((y.flat.length : Int), none32)) 32 := ⟨_, rfl⟩
  obtain ⟨ll, hll⟩ : ∃ ll, ll = spansL 0 (cap (.mk 3 0 0 [x, x2]) (.mk 3 0 [y, y2]) (0, none32)) 32 := ⟨_, rfl⟩
  have hrows' : (∀ g ∈ K.groupsC x, ∀ h ∈ K.groupsC x2, g ≠ h) → ∀ j (_ : 0 < j) (h1 : j < la.length) (h2 : j < lb.length) (h3 : j < ll.length), ll[j]'h3 = if (la[j]'h1).1 = -1 then lb[j]'h2 else la[j]'h1 := by
    subst hla hlb hll; exact hrows
  have Hs := Lib.hid (And.intro hrows' (And.intro (show la.length = 33 by rw [hla, spansL_len]) (And.intro (show lb.length = 33 by rw [hlb, spansL_len]) (show (spansL 0 (cap (.mk 3 0 0 [x, x2]) (.mk 3 0 [y, y2]) (0, none32)) 32).length = 33 by rw [spansL_len]))))
  rw [← hla] at Hof1
  rw [← hlb] at Hof2
  have Hll := Lib.hid hll
  clear hrows hrows' hla hlb hll
  generalize (y.flat.length : Int) = n at *
  go_enter Tryd.func6, Tryd.ntmps6
  go_upto_region 1 with fail
  rw [← hW]
  clear hW
  go_upto_region 5 with (first
    | (go_at_call 8; refine (Haw.out _ (Below.refl _ _)).mono ?_; rintro e W1 ⟨rfl, hb1⟩; have q0x := HXx.out _ hb1; have call0 := Hbigx.out _ hb1; clear hb1)
    | (refine K.wpList_load_core rfl _ rfl w.heap.size 0 _ rfl q0x ?_)
    | (go_at_call 24; refine call0.mono ?_; clear call0; rintro e W2 ⟨rfl, hb2⟩; clear q0x; have q1x2 := HXx2.out _ hb2; have call1 := Hbigd.out _ hb2; clear hb2)
    | (refine K.wpList_load_node_want rfl _ rfl (w.heap.size + 1) 0 _ rfl q1x2 ?_)
    | (go_at_call 24; refine call1.mono ?_; clear call1; rintro e W3 ⟨rfl, hb3⟩; clear q1x2; have q2y := HXy.out _ hb3; have call2 := Hwidev.out _ hb3; clear hb3)
    | (refine wpList_load_val_want rfl _ rfl (w.heap.size + 2) 0 _ rfl q2y ?_)
    | (go_at_call 25; refine call2.mono ?_; clear call2; rintro e W4 ⟨rfl, hb4⟩; clear q2y; have q3y2 := HXy2.out _ hb4; have call3 := Hwideu.out _ hb4; clear hb4)
    | (refine wpList_load_val_want rfl _ rfl (w.heap.size + 3) 0 _ rfl q3y2 ?_)
    | (go_at_call 25; refine call3.mono ?_; clear call3; rintro e W5 ⟨rfl, hb5⟩; clear q3y2; have q4x := HXx.out _ hb5; have q4y := HXy.out _ hb5; have call4 := Hgoodv.out _ hb5; clear hb5)
    | (refine K.wpList_load_node_want rfl _ rfl w.heap.size 0 _ rfl q4x ?_)
    | (refine wpList_load_val_want rfl _ rfl (w.heap.size + 2) 0 _ rfl q4y ?_)
    | (go_at_call 32; refine call4.mono ?_; clear call4; rintro e W6 ⟨rfl, hb6⟩; clear q4x q4y; have q5x2 := HXx2.out _ hb6; have q5y2 := HXy2.out _ hb6; have call5 := Hgoodu.out _ hb6; clear hb6)
    | (refine K.wpList_load_node_want rfl _ rfl (w.heap.size + 1) 0 _ rfl q5x2 ?_)
    | (refine wpList_load_val_want rfl _ rfl (w.heap.size + 3) 0 _ rfl q5y2 ?_)
    | (go_at_call 32; refine call5.mono ?_; clear call5; rintro e W7 ⟨rfl, hb7⟩; clear q5x2 q5y2; have Hb7 := Lib.hid hb7; clear hb7)
    | (refine K.wpList_load_node_want rfl _ rfl w.heap.size 0 _ rfl (HXx.out _ Hb7.out) ?_)
    | (refine K.wpList_load_node_want rfl _ rfl (w.heap.size + 1) 0 _ rfl (HXx2.out _ Hb7.out) ?_)
    | (go_at_call 19; refine (K.seq_walk (HAx.out _ Hb7.out) (HAx2.out _ Hb7.out)).mono ?_; rintro e W8 ⟨zs8, rfl, hat8, hb8⟩; have H8 := Lib.hid (And.intro hat8 (Hb7.out.trans (hb8.mono Hb7.out.size))); clear hat8 hb8)
    | (go_at_call 34; refine (K.good_walk H8.out.1).mono ?_; rw [B6]; rintro e W9 ⟨rfl, hb9⟩; have Hb9 := Lib.hid (H8.out.2.trans (hb9.mono H8.out.2.size)); clear hb9)
    | fail)
  have HB : Hid (Below W.heap.size W W9) := Hb9
  go_cut [9, 10] from 56 to 59 (fun v9 v10 wx => ∃ (ga1 : Option Addr) (gc1 : Nat) (ga2 : Option Addr) (gc2 : Nat), v9 = .slice ga1 (K.groupsC x).length gc1 ∧ v10 = .slice ga2 (K.groupsC x2).length gc2 ∧ (∃ B, wx.ownsRow B 3 1 (.slice ga1 (K.groupsC x).length gc1) (K.groupsC x).length (K.intCells (K.groupsC x))) ∧ (∃ B, wx.ownsRow B 3 1 (.slice ga2 (K.groupsC x2).length gc2) (K.groupsC x2).length (K.intCells (K.groupsC x2))) ∧ Below W9.heap.size W9 wx)
  case first =>
    rename_i J K' hR hMet
    obtain ⟨wd, hwd⟩ : ∃ wd, wd = W9.drew := ⟨_, rfl⟩
    have hBd : Below W9.heap.size W9 wd := by rw [hwd]; exact (Below.refl _ _).drew
    refine wp_region_hold (fun w' => Below W9.heap.size W9 w') (.plain 0 (.plain 2 (.sole 1 (.sole 3 (.plain 4 (.plain 5 .done)))))) (by rw [← hwd]; exact hBd) (by kernel_rfl) (by kernel_rfl) (fun c a d v w h => by cases d <;> exact h) ?_
    rw [← hwd]
    clear hwd
    have hne : Nonempty (HeldW (fun w' => Below W9.heap.size W9 w')) := HeldW.nonempty hBd
    repeat (first
        | (refine' hold_skip ?_ ?_ ?_
           rotate_left 1
           · simp only [List.getElem?_toArray, List.getElem?_cons_zero, List.getElem?_cons_succ]; exact rfl
           · exact rfl
           simp only [Act.put, List.setIfInBounds_toArray, List.set_cons_zero, List.set_cons_succ])
        | (refine' hold_want ?_ ?_ (fun J hJ => ?_)
           rotate_left 1
           · simp only [List.getElem?_toArray, List.getElem?_cons_zero, List.getElem?_cons_succ]; exact rfl
           · exact rfl
           first
           | (refine K.quiet_load_core _ rfl w.heap.size 0 [.int .i64 k1, .int .u64 (word s1 0), .int .u64 (word s1 1), .int .u64 (word s1 2), .int .u64 (word s1 3), .int .i64 n1, .slice a1 len1 cap1] rfl (fun w' ⟨L, hL⟩ => HXx.out _ (HB.out.trans ((hL ▸ L.ok : Below W9.heap.size W9 w').mono HB.out.size))) ?_; refine hJ _ ?_; clear hJ J; try simp only [Act.put, List.setIfInBounds_toArray, List.set_cons_zero, List.set_cons_succ])
           | (refine K.quiet_load_core _ rfl (w.heap.size + 1) 0 [.int .i64 k3, .int .u64 (word s3 0), .int .u64 (word s3 1), .int .u64 (word s3 2), .int .u64 (word s3 3), .int .i64 n3, .slice a3 len3 cap3] rfl (fun w' ⟨L, hL⟩ => HXx2.out _ (HB.out.trans ((hL ▸ L.ok : Below W9.heap.size W9 w').mono HB.out.size))) ?_; refine hJ _ ?_; clear hJ J; try simp only [Act.put, List.setIfInBounds_toArray, List.set_cons_zero, List.set_cons_succ])
           | (refine quiet_load_val _ rfl (w.heap.size + 2) 0 [.int .i64 k2, .int .u8 z2, .slice a2 len2 cap2] rfl (fun w' ⟨L, hL⟩ => HXy.out _ (HB.out.trans ((hL ▸ L.ok : Below W9.heap.size W9 w').mono HB.out.size))) ?_; refine hJ _ ?_; clear hJ J; try simp only [Act.put, List.setIfInBounds_toArray, List.set_cons_zero, List.set_cons_succ])
           | (refine quiet_load_val _ rfl (w.heap.size + 3) 0 [.int .i64 k4, .int .u8 z4, .slice a4 len4 cap4] rfl (fun w' ⟨L, hL⟩ => HXy2.out _ (HB.out.trans ((hL ▸ L.ok : Below W9.heap.size W9 w').mono HB.out.size))) ?_; refine hJ _ ?_; clear hJ J; try simp only [Act.put, List.setIfInBounds_toArray, List.set_cons_zero, List.set_cons_succ])
           | (refine quiet_extract _ _ rfl _ _ rfl rfl ?_; refine hJ _ ?_; clear hJ J; try simp only [Act.put, List.setIfInBounds_toArray, List.set_cons_zero, List.set_cons_succ])
           | (go_big_quiet_op; refine hJ _ ?_; clear hJ J; try simp only [Act.put, List.setIfInBounds_toArray, List.set_cons_zero, List.set_cons_succ])))
    refine' hold_sole ?_ ?_ (fun J hJ => ?_)
    rotate_left 1
    · simp only [List.getElem?_toArray, List.getElem?_cons_zero, List.getElem?_cons_succ]; exact rfl
    · exact rfl
    go_simp
    refine (K.groups_walk (HAx.out _ (HB.out.trans (hBd.mono HB.out.size))) Hg.out.1).mono ?_
    rintro e u1 ⟨ga1, gc1, rfl, hown1, hb1⟩
    have hB1 : Below W9.heap.size W9 u1 := hBd.trans (hb1.mono hBd.size)
    refine hJ _ _ hB1 ?_
    clear hJ J hb1
    try simp only [Act.put, List.setIfInBounds_toArray, List.set_cons_zero, List.set_cons_succ]
    refine' hold_sole ?_ ?_ (fun J hJ => ?_)
    rotate_left 1
    · simp only [List.getElem?_toArray, List.getElem?_cons_zero, List.getElem?_cons_succ]; exact rfl
    · exact rfl
    go_simp
    refine (K.groups_walk (HAx2.out _ (HB.out.trans (hB1.mono HB.out.size))) Hg.out.2).mono ?_
    rintro e u2 ⟨ga2, gc2, rfl, hown2, hb2⟩
    have hB2 : Below W9.heap.size W9 u2 := hB1.trans (hb2.mono hB1.size)
    have g1_2 := own_below hown1 hb2
    refine hJ _ _ hB2 ?_
    clear hJ J hb2
    try simp only [Act.put, List.setIfInBounds_toArray, List.set_cons_zero, List.set_cons_succ]
    repeat (first
        | (refine' hold_skip ?_ ?_ ?_
           rotate_left 1
           · simp only [List.getElem?_toArray, List.getElem?_cons_zero, List.getElem?_cons_succ]; exact rfl
           · exact rfl
           simp only [Act.put, List.setIfInBounds_toArray, List.set_cons_zero, List.set_cons_succ])
        | (refine' hold_want ?_ ?_ (fun J hJ => ?_)
           rotate_left 1
           · simp only [List.getElem?_toArray, List.getElem?_cons_zero, List.getElem?_cons_succ]; exact rfl
           · exact rfl
           first
           | (refine K.quiet_load_core _ rfl w.heap.size 0 [.int .i64 k1, .int .u64 (word s1 0), .int .u64 (word s1 1), .int .u64 (word s1 2), .int .u64 (word s1 3), .int .i64 n1, .slice a1 len1 cap1] rfl (fun w' ⟨L, hL⟩ => HXx.out _ (HB.out.trans ((hL ▸ L.ok : Below W9.heap.size W9 w').mono HB.out.size))) ?_; refine hJ _ ?_; clear hJ J; try simp only [Act.put, List.setIfInBounds_toArray, List.set_cons_zero, List.set_cons_succ])
           | (refine K.quiet_load_core _ rfl (w.heap.size + 1) 0 [.int .i64 k3, .int .u64 (word s3 0), .int .u64 (word s3 1), .int .u64 (word s3 2), .int .u64 (word s3 3), .int .i64 n3, .slice a3 len3 cap3] rfl (fun w' ⟨L, hL⟩ => HXx2.out _ (HB.out.trans ((hL ▸ L.ok : Below W9.heap.size W9 w').mono HB.out.size))) ?_; refine hJ _ ?_; clear hJ J; try simp only [Act.put, List.setIfInBounds_toArray, List.set_cons_zero, List.set_cons_succ])
           | (refine quiet_load_val _ rfl (w.heap.size + 2) 0 [.int .i64 k2, .int .u8 z2, .slice a2 len2 cap2] rfl (fun w' ⟨L, hL⟩ => HXy.out _ (HB.out.trans ((hL ▸ L.ok : Below W9.heap.size W9 w').mono HB.out.size))) ?_; refine hJ _ ?_; clear hJ J; try simp only [Act.put, List.setIfInBounds_toArray, List.set_cons_zero, List.set_cons_succ])
           | (refine quiet_load_val _ rfl (w.heap.size + 3) 0 [.int .i64 k4, .int .u8 z4, .slice a4 len4 cap4] rfl (fun w' ⟨L, hL⟩ => HXy2.out _ (HB.out.trans ((hL ▸ L.ok : Below W9.heap.size W9 w').mono HB.out.size))) ?_; refine hJ _ ?_; clear hJ J; try simp only [Act.put, List.setIfInBounds_toArray, List.set_cons_zero, List.set_cons_succ])
           | (refine quiet_extract _ _ rfl _ _ rfl rfl ?_; refine hJ _ ?_; clear hJ J; try simp only [Act.put, List.setIfInBounds_toArray, List.set_cons_zero, List.set_cons_succ])
           | (go_big_quiet_op; refine hJ _ ?_; clear hJ J; try simp only [Act.put, List.setIfInBounds_toArray, List.set_cons_zero, List.set_cons_succ])))
    refine hold_done ?_
    refine hMet _ _ (Met.intro (hR _ _ ?_))
    exact ⟨_, _, _, _, _, _, ⟨_, _, _, _, rfl, rfl, ⟨_, g1_2⟩, ⟨_, hown2⟩, hB2⟩, rfl⟩

  case rest =>
  obtain ⟨ga1, gc1, ga2, gc2, rfl, rfl, ⟨B1, hown1⟩, ⟨B2, hown2⟩, hBc⟩ := hcut
  obtain ⟨w10, rfl⟩ : ∃ w10, w10 = wc := ⟨_, rfl⟩
  obtain ⟨hm1, hi1⟩ := ints_open hown1
  obtain ⟨hm2, hi2⟩ := ints_open hown2
  have H10 := Lib.hid (And.intro hi1 (And.intro hi2 (HB.out.trans (hBc.mono HB.out.size))))
  obtain ⟨G, hG⟩ : ∃ G, G = K.groupsC x := ⟨_, rfl⟩
  obtain ⟨H, hH⟩ : ∃ H, H = K.groupsC x2 := ⟨_, rfl⟩
  rw [← hG, ← hH] at H10
  rw [← hG, ← hH] at Hs
  rw [← hG] at hm1 ⊢
  rw [← hH] at hm2 ⊢
  clear hown1 hown2 hBc hi1 hi2 hG hH
  obtain ⟨LG, hLG⟩ : ∃ LG, LG = G.length := ⟨_, rfl⟩
  obtain ⟨LH, hLH⟩ : ∃ LH, LH = H.length := ⟨_, rfl⟩
  rw [← hLG] at hm1 ⊢
  rw [← hLH] at hm2 ⊢
  have hm1I : (LG : Int) ≤ 9223372036854775807 := by omega
  have hm2I : (LH : Int) ≤ 9223372036854775807 := by omega
  have HL := Lib.hid (And.intro hLG hLH)
  clear hLG hLH hm1 hm2
  go_wp2_with fail
  go_loopw [11] (fun i wr => ∃ p : Nat, i = .int .i64 p ∧ p ≤ LG ∧ Hid (Below w10.heap.size w10 wr) ∧ Hid (∀ g ∈ G.take p, ∀ h ∈ H, g ≠ h)) (fun i _ => LG - (intOf i).toNat)
  case atStart => exact ⟨0, rfl, Nat.zero_le _, Lib.hid (Below.refl _ _), Lib.hid (by rw [List.take_zero]; intro g hg; cases hg)⟩
  case round =>
    obtain ⟨p, rfl, hp, hbr, hap⟩ := hrel
    by_cases hpl : p < LG
    · have hd : decide ((p : Int) < LG) = true := by simp; omega
      have hpG : p < G.length := by have := HL.out; omega
      have Htk := Lib.hid (List.take_succ_eq_append_getElem hpG)
      obtain ⟨bg, rfl, hcg, hbg, hcell⟩ := H10.out.1.resolve_left (by omega)
      have hcp := hcell p hpG
      have hcgI : (LG : Int) ≤ gc1 := by have := HL.out; omega
      generalize G[p] = gp at hcp Htk
      have HpG := Lib.hid (And.intro hpG hpl)
      obtain ⟨wo, rfl⟩ : ∃ wo : World, wo = wr := ⟨_, rfl⟩
      clear hcell hcg hpG
      go_wp2_with fail
      go_loopw [12] (fun i wq => ∃ q : Nat, i = .int .i64 q ∧ q ≤ LH ∧ Hid (Below wo.heap.size wo wq) ∧ Hid (∀ h ∈ H.take q, gp ≠ h)) (fun i _ => LH - (intOf i).toNat)
      case atStart => exact ⟨0, rfl, Nat.zero_le _, Lib.hid (Below.refl _ _), Lib.hid (by rw [List.take_zero]; intro g hg; cases hg)⟩
      case round =>
        obtain ⟨q, rfl, hq, hbq, haq⟩ := hrel
        by_cases hql : q < LH
        · have hd2 : decide ((q : Int) < LH) = true := by simp; omega
          have hqH : q < H.length := by have := HL.out; omega
          have Htq := Lib.hid (List.take_succ_eq_append_getElem hqH)
          obtain ⟨bh, rfl, hch, hbh, hcell2⟩ := H10.out.2.1.resolve_left (by omega)
          have hcq := hcell2 q hqH
          have hchI : (LH : Int) ≤ gc2 := by have := HL.out; omega
          generalize H[q] = hq0 at hcq Htq
          have hbb := hbr.out.trans (hbq.out.mono hbr.out.size)
          have e1 : wr.cell? ⟨bg, p, none⟩ = some (.int .i64 gp) := by rw [hbb.cell (p := ⟨bg, p, none⟩) hbg]; exact hcp
          have e2 : wr.cell? ⟨bh, q, none⟩ = some (.int .i64 hq0) := by rw [hbb.cell (p := ⟨bh, q, none⟩) hbh]; exact hcq
          have ip : (p : Int) < LG := by omega
          have iq : (q : Int) < LH := by omega
          have HqH := Lib.hid (And.intro hqH hql)
          by_cases heq : gp = hq0
          · subst heq
            have Hend := Lib.hid (H10.out.2.2.trans (hbb.mono H10.out.2.2.size))
            clear hcell2 hch hcp hcq hbb hqH
            go_upto_region 12 with fail
            go_region
            all_goals
              go_wp2_with fail
              go_ret
              exact ⟨rfl, HbW.out.trans ((Hend.out.trans (Below.refl _ _).drew).mono HbW.out.size)⟩
          · have hne : (gp == hq0) = false := by simpa using heq
            have Hne := Lib.hid heq
            clear hcell2 hch hcp hcq hbb heq hqH
            go_upto_region 12 with fail
            go_region
            all_goals
              go_wp2_with fail
              go_roundw
              case rel => exact ⟨q + 1, by go_num, by omega, Lib.hid (hbq.out.trans (Below.refl _ _).drew), Lib.hid (by
                rw [Htq.out]
                intro h hh
                rcases List.mem_append.1 hh with hh | hh
                · exact haq.out h hh
                · rw [List.mem_singleton] at hh; rw [hh]; exact Hne.out)⟩
              case measure => simp [intOf]; omega
        · have hd2 : decide ((q : Int) < LH) = false := by simp; omega
          obtain rfl : q = LH := by omega
          have hall : H.take q = H := List.take_of_length_le (by have := HL.out; omega)
          rw [hall] at haq
          clear hall
          go_wp2_with fail
          go_roundw
          case rel => exact ⟨p + 1, by go_num, by omega, Lib.hid (hbr.out.trans (hbq.out.mono hbr.out.size)), Lib.hid (by
            rw [Htk.out]
            intro g hg
            rcases List.mem_append.1 hg with hg | hg
            · exact hap.out g hg
            · rw [List.mem_singleton] at hg; rw [hg]; exact haq.out)⟩
          case measure => simp [intOf]; omega
    · have hd : decide ((p : Int) < LG) = false := by simp; omega
      obtain rfl : p = LG := by omega
      have hall : G.take p = G := List.take_of_length_le (by have := HL.out; omega)
      rw [hall] at hap
      have Hrow := Lib.hid (Hs.out.1 hap.out)
      have hb11 := H10.out.2.2.trans (hbr.out.mono H10.out.2.2.size)
      have q11x := HXx.out _ hb11
      have q11y := HXy.out _ hb11
      have Hb11 := Lib.hid hb11
      clear hall hap H10 hbr hb11
      go_upto_region 15 with (first
        | (refine K.wpList_load_core rfl _ rfl w.heap.size 0 _ rfl q11x ?_)
        | (refine wpList_load_val rfl _ rfl (w.heap.size + 2) 0 _ rfl q11y ?_)
        | (go_at_call 13; refine ((Hof1.out _ Hb11.out).mono (fun _ _ => SpPost.n Hs.out.2.1)).mono ?_; rintro e W12 ⟨pa, ca, rfl, hspa, hb12⟩; have H12 := Lib.hid (And.intro hspa (Hb11.out.trans (hb12.mono Hb11.out.size))); clear hspa hb12 q11x q11y)
        | fail)
      have HB : Hid (Below W.heap.size W W12) := Lib.hid H12.out.2
      obtain ⟨wd, hwd⟩ : ∃ wd, wd = W12.drew := ⟨_, rfl⟩
      have hBd : Below W12.heap.size W12 wd := by rw [hwd]; exact (Below.refl _ _).drew
      refine wp_region_hold (fun w' => Below W12.heap.size W12 w') (.plain 0 (.plain 1 (.plain 2 (.sole 3 (.sole 4 (.plain 5 (.plain 6 (.plain 7 (.plain 8 (.plain 9 .done)))))))))) (by rw [← hwd]; exact hBd) (by kernel_rfl) (by kernel_rfl) (fun c a d v w h => by cases d <;> exact h) ?_
      rw [← hwd]
      clear hwd
      have hne : Nonempty (HeldW (fun w' => Below W12.heap.size W12 w')) := HeldW.nonempty hBd
      repeat (first
          | (refine' hold_skip ?_ ?_ ?_
             rotate_left 1
             · simp only [List.getElem?_toArray, List.getElem?_cons_zero, List.getElem?_cons_succ]; exact rfl
             · exact rfl
             simp only [Act.put, List.setIfInBounds_toArray, List.set_cons_zero, List.set_cons_succ])
          | (refine' hold_want ?_ ?_ (fun J hJ => ?_)
             rotate_left 1
             · simp only [List.getElem?_toArray, List.getElem?_cons_zero, List.getElem?_cons_succ]; exact rfl
             · exact rfl
             first
             | (refine K.quiet_load_core _ rfl w.heap.size 0 [.int .i64 k1, .int .u64 (word s1 0), .int .u64 (word s1 1), .int .u64 (word s1 2), .int .u64 (word s1 3), .int .i64 n1, .slice a1 len1 cap1] rfl (fun w' ⟨L, hL⟩ => HXx.out _ (HB.out.trans ((hL ▸ L.ok : Below W12.heap.size W12 w').mono HB.out.size))) ?_; refine hJ _ ?_; clear hJ J; try simp only [Act.put, List.setIfInBounds_toArray, List.set_cons_zero, List.set_cons_succ])
             | (refine K.quiet_load_core _ rfl (w.heap.size + 1) 0 [.int .i64 k3, .int .u64 (word s3 0), .int .u64 (word s3 1), .int .u64 (word s3 2), .int .u64 (word s3 3), .int .i64 n3, .slice a3 len3 cap3] rfl (fun w' ⟨L, hL⟩ => HXx2.out _ (HB.out.trans ((hL ▸ L.ok : Below W12.heap.size W12 w').mono HB.out.size))) ?_; refine hJ _ ?_; clear hJ J; try simp only [Act.put, List.setIfInBounds_toArray, List.set_cons_zero, List.set_cons_succ])
             | (refine quiet_load_val _ rfl (w.heap.size + 2) 0 [.int .i64 k2, .int .u8 z2, .slice a2 len2 cap2] rfl (fun w' ⟨L, hL⟩ => HXy.out _ (HB.out.trans ((hL ▸ L.ok : Below W12.heap.size W12 w').mono HB.out.size))) ?_; refine hJ _ ?_; clear hJ J; try simp only [Act.put, List.setIfInBounds_toArray, List.set_cons_zero, List.set_cons_succ])
             | (refine quiet_load_val _ rfl (w.heap.size + 3) 0 [.int .i64 k4, .int .u8 z4, .slice a4 len4 cap4] rfl (fun w' ⟨L, hL⟩ => HXy2.out _ (HB.out.trans ((hL ▸ L.ok : Below W12.heap.size W12 w').mono HB.out.size))) ?_; refine hJ _ ?_; clear hJ J; try simp only [Act.put, List.setIfInBounds_toArray, List.set_cons_zero, List.set_cons_succ])
             | (refine quiet_extract _ _ rfl _ _ rfl rfl ?_; refine hJ _ ?_; clear hJ J; try simp only [Act.put, List.setIfInBounds_toArray, List.set_cons_zero, List.set_cons_succ])
             | (go_big_quiet_op; refine hJ _ ?_; clear hJ J; try simp only [Act.put, List.setIfInBounds_toArray, List.set_cons_zero, List.set_cons_succ])))
      refine' hold_sole ?_ ?_ (fun J hJ => ?_)
      rotate_left 1
      · simp only [List.getElem?_toArray, List.getElem?_cons_zero, List.getElem?_cons_succ]; exact rfl
      · exact rfl
      go_simp
      refine (HlenB.out _ (HB.out.trans (hBd.mono HB.out.size))).mono ?_
      rintro e u6 ⟨rfl, hb6⟩
      have hB6 : Below W12.heap.size W12 u6 := hBd.trans (hb6.mono hBd.size)
      refine hJ _ _ hB6 ?_
      clear hJ J hb6
      try simp only [Act.put, List.setIfInBounds_toArray, List.set_cons_zero, List.set_cons_succ]
      refine' hold_sole ?_ ?_ (fun J hJ => ?_)
      rotate_left 1
      · simp only [List.getElem?_toArray, List.getElem?_cons_zero, List.getElem?_cons_succ]; exact rfl
      · exact rfl
      go_simp
      refine ((Hof2.out _ (HB.out.trans (hB6.mono HB.out.size))).mono (fun _ _ => SpPost.n Hs.out.2.2.1)).mono ?_
      rintro e u7 ⟨pb, cb, rfl, hspb, hb7⟩
      have hB7 : Below W12.heap.size W12 u7 := hB6.trans (hb7.mono hB6.size)
      refine hJ _ _ hB7 ?_
      clear hJ J hb7
      try simp only [Act.put, List.setIfInBounds_toArray, List.set_cons_zero, List.set_cons_succ]
      repeat (first
          | (refine' hold_skip ?_ ?_ ?_
             rotate_left 1
             · simp only [List.getElem?_toArray, List.getElem?_cons_zero, List.getElem?_cons_succ]; exact rfl
             · exact rfl
             simp only [Act.put, List.setIfInBounds_toArray, List.set_cons_zero, List.set_cons_succ])
          | (refine' hold_want ?_ ?_ (fun J hJ => ?_)
             rotate_left 1
             · simp only [List.getElem?_toArray, List.getElem?_cons_zero, List.getElem?_cons_succ]; exact rfl
             · exact rfl
             first
             | (refine K.quiet_load_core _ rfl w.heap.size 0 [.int .i64 k1, .int .u64 (word s1 0), .int .u64 (word s1 1), .int .u64 (word s1 2), .int .u64 (word s1 3), .int .i64 n1, .slice a1 len1 cap1] rfl (fun w' ⟨L, hL⟩ => HXx.out _ (HB.out.trans ((hL ▸ L.ok : Below W12.heap.size W12 w').mono HB.out.size))) ?_; refine hJ _ ?_; clear hJ J; try simp only [Act.put, List.setIfInBounds_toArray, List.set_cons_zero, List.set_cons_succ])
             | (refine K.quiet_load_core _ rfl (w.heap.size + 1) 0 [.int .i64 k3, .int .u64 (word s3 0), .int .u64 (word s3 1), .int .u64 (word s3 2), .int .u64 (word s3 3), .int .i64 n3, .slice a3 len3 cap3] rfl (fun w' ⟨L, hL⟩ => HXx2.out _ (HB.out.trans ((hL ▸ L.ok : Below W12.heap.size W12 w').mono HB.out.size))) ?_; refine hJ _ ?_; clear hJ J; try simp only [Act.put, List.setIfInBounds_toArray, List.set_cons_zero, List.set_cons_succ])
             | (refine quiet_load_val _ rfl (w.heap.size + 2) 0 [.int .i64 k2, .int .u8 z2, .slice a2 len2 cap2] rfl (fun w' ⟨L, hL⟩ => HXy.out _ (HB.out.trans ((hL ▸ L.ok : Below W12.heap.size W12 w').mono HB.out.size))) ?_; refine hJ _ ?_; clear hJ J; try simp only [Act.put, List.setIfInBounds_toArray, List.set_cons_zero, List.set_cons_succ])
             | (refine quiet_load_val _ rfl (w.heap.size + 3) 0 [.int .i64 k4, .int .u8 z4, .slice a4 len4 cap4] rfl (fun w' ⟨L, hL⟩ => HXy2.out _ (HB.out.trans ((hL ▸ L.ok : Below W12.heap.size W12 w').mono HB.out.size))) ?_; refine hJ _ ?_; clear hJ J; try simp only [Act.put, List.setIfInBounds_toArray, List.set_cons_zero, List.set_cons_succ])
             | (refine quiet_extract _ _ rfl _ _ rfl rfl ?_; refine hJ _ ?_; clear hJ J; try simp only [Act.put, List.setIfInBounds_toArray, List.set_cons_zero, List.set_cons_succ])
             | (go_big_quiet_op; refine hJ _ ?_; clear hJ J; try simp only [Act.put, List.setIfInBounds_toArray, List.set_cons_zero, List.set_cons_succ])))
      refine hold_done ?_
      obtain ⟨W13, hW13⟩ : ∃ W13, W13 = u7 := ⟨_, rfl⟩
      rw [← hW13]
      have H13 : Hid (SpAt W13 pa ca la ∧ SpAt W13 pb cb lb ∧ Below W.heap.size W W13) := Lib.hid (by rw [hW13]; exact ⟨H12.out.1.below hB7, hspb, HB.out.trans (hB7.mono HB.out.size)⟩)
      clear hB7 hspb hW13
      replace HB : Hid (Below W.heap.size W W13) := Lib.hid H13.out.2.2
      go_upto_region 16 with fail
      go_cut [17, 18] from 95 to 104 (fun v17 v18 wx => ∃ (pl : Option Addr) (cl : Nat), v17 = .slice pl 33 cl ∧ v18 = .int .i64 0 ∧ SpAt wx pl cl (spansL 0 (cap (.mk 3 0 0 [x, x2]) (.mk 3 0 [y, y2]) (0, none32)) 32) ∧ Below W13.heap.size W13 wx)
      case first =>
        rename_i J K' hR hMet
        obtain ⟨wd, hwd⟩ : ∃ wd, wd = W13.drew := ⟨_, rfl⟩
        have hBd : Below W13.heap.size W13 wd := by rw [hwd]; exact (Below.refl _ _).drew
        refine wp_region_hold (fun w' => Below W13.heap.size W13 w') (.plain 0 (.plain 1 (.plain 3 (.plain 4 (.sole 2 (.sole 5 (.sole 6 (.plain 7 (.plain 8 (.plain 9 (.plain 10 (.plain 11 .done)))))))))))) (by rw [← hwd]; exact hBd) (by kernel_rfl) (by kernel_rfl) (fun c a d v w h => by cases d <;> exact h) ?_
        rw [← hwd]
        clear hwd
        have hne : Nonempty (HeldW (fun w' => Below W13.heap.size W13 w')) := HeldW.nonempty hBd
        repeat (first
            | (refine' hold_skip ?_ ?_ ?_
               rotate_left 1
               · simp only [List.getElem?_toArray, List.getElem?_cons_zero, List.getElem?_cons_succ]; exact rfl
               · exact rfl
               simp only [Act.put, List.setIfInBounds_toArray, List.set_cons_zero, List.set_cons_succ])
            | (refine' hold_want ?_ ?_ (fun J hJ => ?_)
               rotate_left 1
               · simp only [List.getElem?_toArray, List.getElem?_cons_zero, List.getElem?_cons_succ]; exact rfl
               · exact rfl
               first
               | (refine K.quiet_load_core _ rfl w.heap.size 0 [.int .i64 k1, .int .u64 (word s1 0), .int .u64 (word s1 1), .int .u64 (word s1 2), .int .u64 (word s1 3), .int .i64 n1, .slice a1 len1 cap1] rfl (fun w' ⟨L, hL⟩ => HXx.out _ (HB.out.trans ((hL ▸ L.ok : Below W13.heap.size W13 w').mono HB.out.size))) ?_; refine hJ _ ?_; clear hJ J; try simp only [Act.put, List.setIfInBounds_toArray, List.set_cons_zero, List.set_cons_succ])
               | (refine K.quiet_load_core _ rfl (w.heap.size + 1) 0 [.int .i64 k3, .int .u64 (word s3 0), .int .u64 (word s3 1), .int .u64 (word s3 2), .int .u64 (word s3 3), .int .i64 n3, .slice a3 len3 cap3] rfl (fun w' ⟨L, hL⟩ => HXx2.out _ (HB.out.trans ((hL ▸ L.ok : Below W13.heap.size W13 w').mono HB.out.size))) ?_; refine hJ _ ?_; clear hJ J; try simp only [Act.put, List.setIfInBounds_toArray, List.set_cons_zero, List.set_cons_succ])
               | (refine quiet_load_val _ rfl (w.heap.size + 2) 0 [.int .i64 k2, .int .u8 z2, .slice a2 len2 cap2] rfl (fun w' ⟨L, hL⟩ => HXy.out _ (HB.out.trans ((hL ▸ L.ok : Below W13.heap.size W13 w').mono HB.out.size))) ?_; refine hJ _ ?_; clear hJ J; try simp only [Act.put, List.setIfInBounds_toArray, List.set_cons_zero, List.set_cons_succ])
               | (refine quiet_load_val _ rfl (w.heap.size + 3) 0 [.int .i64 k4, .int .u8 z4, .slice a4 len4 cap4] rfl (fun w' ⟨L, hL⟩ => HXy2.out _ (HB.out.trans ((hL ▸ L.ok : Below W13.heap.size W13 w').mono HB.out.size))) ?_; refine hJ _ ?_; clear hJ J; try simp only [Act.put, List.setIfInBounds_toArray, List.set_cons_zero, List.set_cons_succ])
               | (refine quiet_extract _ _ rfl _ _ rfl rfl ?_; refine hJ _ ?_; clear hJ J; try simp only [Act.put, List.setIfInBounds_toArray, List.set_cons_zero, List.set_cons_succ])
               | (go_big_quiet_op; refine hJ _ ?_; clear hJ J; try simp only [Act.put, List.setIfInBounds_toArray, List.set_cons_zero, List.set_cons_succ])))
        refine' hold_sole ?_ ?_ (fun J hJ => ?_)
        rotate_left 1
        · simp only [List.getElem?_toArray, List.getElem?_cons_zero, List.getElem?_cons_succ]; exact rfl
        · exact rfl
        go_simp
        refine (K.seq_walk (HAx.out _ (HB.out.trans (hBd.mono HB.out.size))) (HAx2.out _ (HB.out.trans (hBd.mono HB.out.size)))).mono ?_
        rintro e u3 ⟨zq, rfl, hatq, hb3⟩
        have hB3 : Below W13.heap.size W13 u3 := hBd.trans (hb3.mono hBd.size)
        refine hJ _ _ hB3 ?_
        clear hJ J hb3
        try simp only [Act.put, List.setIfInBounds_toArray, List.set_cons_zero, List.set_cons_succ]
        refine' hold_sole ?_ ?_ (fun J hJ => ?_)
        rotate_left 1
        · simp only [List.getElem?_toArray, List.getElem?_cons_zero, List.getElem?_cons_succ]; exact rfl
        · exact rfl
        go_simp
        refine (row_walk (HAy.out _ (HB.out.trans (hB3.mono HB.out.size))) (HAy2.out _ (HB.out.trans (hB3.mono HB.out.size)))).mono ?_
        rintro e u4 ⟨zr, rfl, hatr, hb4⟩
        have hB4 : Below W13.heap.size W13 u4 := hB3.trans (hb4.mono hB3.size)
        have sq_4 := K.Cr.at_below hb4 (Nat.le_refl _) _ _ hatq
        refine hJ _ _ hB4 ?_
        clear hJ J hb4
        try simp only [Act.put, List.setIfInBounds_toArray, List.set_cons_zero, List.set_cons_succ]
        refine' hold_sole ?_ ?_ (fun J hJ => ?_)
        rotate_left 1
        · simp only [List.getElem?_toArray, List.getElem?_cons_zero, List.getElem?_cons_succ]; exact rfl
        · exact rfl
        go_simp
        refine ((of_ok sq_4 hatr 0 32 ⟨by decide, by decide, by decide⟩ Hgr.out).mono (fun _ _ => SpPost.n Hs.out.2.2.2)).mono ?_
        rintro e u5 ⟨pl, cl, rfl, hspl, hb5⟩
        have hB5 : Below W13.heap.size W13 u5 := hB4.trans (hb5.mono hB4.size)
        have sq_5 := K.Cr.at_below hb5 (Nat.le_refl _) _ _ sq_4
        have rw_5 := Vl.at_below hb5 (Nat.le_refl _) _ _ hatr
        refine hJ _ _ hB5 ?_
        clear hJ J hb5
        try simp only [Act.put, List.setIfInBounds_toArray, List.set_cons_zero, List.set_cons_succ]
        repeat (first
            | (refine' hold_skip ?_ ?_ ?_
               rotate_left 1
               · simp only [List.getElem?_toArray, List.getElem?_cons_zero, List.getElem?_cons_succ]; exact rfl
               · exact rfl
               simp only [Act.put, List.setIfInBounds_toArray, List.set_cons_zero, List.set_cons_succ])
            | (refine' hold_want ?_ ?_ (fun J hJ => ?_)
               rotate_left 1
               · simp only [List.getElem?_toArray, List.getElem?_cons_zero, List.getElem?_cons_succ]; exact rfl
               · exact rfl
               first
               | (refine K.quiet_load_core _ rfl w.heap.size 0 [.int .i64 k1, .int .u64 (word s1 0), .int .u64 (word s1 1), .int .u64 (word s1 2), .int .u64 (word s1 3), .int .i64 n1, .slice a1 len1 cap1] rfl (fun w' ⟨L, hL⟩ => HXx.out _ (HB.out.trans ((hL ▸ L.ok : Below W13.heap.size W13 w').mono HB.out.size))) ?_; refine hJ _ ?_; clear hJ J; try simp only [Act.put, List.setIfInBounds_toArray, List.set_cons_zero, List.set_cons_succ])
               | (refine K.quiet_load_core _ rfl (w.heap.size + 1) 0 [.int .i64 k3, .int .u64 (word s3 0), .int .u64 (word s3 1), .int .u64 (word s3 2), .int .u64 (word s3 3), .int .i64 n3, .slice a3 len3 cap3] rfl (fun w' ⟨L, hL⟩ => HXx2.out _ (HB.out.trans ((hL ▸ L.ok : Below W13.heap.size W13 w').mono HB.out.size))) ?_; refine hJ _ ?_; clear hJ J; try simp only [Act.put, List.setIfInBounds_toArray, List.set_cons_zero, List.set_cons_succ])
               | (refine quiet_load_val _ rfl (w.heap.size + 2) 0 [.int .i64 k2, .int .u8 z2, .slice a2 len2 cap2] rfl (fun w' ⟨L, hL⟩ => HXy.out _ (HB.out.trans ((hL ▸ L.ok : Below W13.heap.size W13 w').mono HB.out.size))) ?_; refine hJ _ ?_; clear hJ J; try simp only [Act.put, List.setIfInBounds_toArray, List.set_cons_zero, List.set_cons_succ])
               | (refine quiet_load_val _ rfl (w.heap.size + 3) 0 [.int .i64 k4, .int .u8 z4, .slice a4 len4 cap4] rfl (fun w' ⟨L, hL⟩ => HXy2.out _ (HB.out.trans ((hL ▸ L.ok : Below W13.heap.size W13 w').mono HB.out.size))) ?_; refine hJ _ ?_; clear hJ J; try simp only [Act.put, List.setIfInBounds_toArray, List.set_cons_zero, List.set_cons_succ])
               | (refine quiet_extract _ _ rfl _ _ rfl rfl ?_; refine hJ _ ?_; clear hJ J; try simp only [Act.put, List.setIfInBounds_toArray, List.set_cons_zero, List.set_cons_succ])
               | (go_big_quiet_op; refine hJ _ ?_; clear hJ J; try simp only [Act.put, List.setIfInBounds_toArray, List.set_cons_zero, List.set_cons_succ])))
        refine hold_done ?_
        refine hMet _ _ (Met.intro (hR _ _ ?_))
        exact ⟨_, _, _, _, _, _, _, _, _, _, _, _, ⟨_, _, rfl, rfl, hspl, hB5⟩, rfl⟩

      case rest =>
      obtain ⟨pl, cl, rfl, rfl, hspl, hBl⟩ := hcut
      obtain ⟨w14, rfl⟩ : ∃ w14, w14 = wc := ⟨_, rfl⟩
      rw [← Hll.out] at hspl
      have H14 := Lib.hid (And.intro (H13.out.1.below hBl) (And.intro (H13.out.2.1.below hBl) (And.intro hspl (H13.out.2.2.trans (hBl.mono H13.out.2.2.size)))))
      clear hspl hBl
      go_wp2_with fail
      go_loopw [19] (fun i wr => ∃ j : Nat, i = .int .i64 j ∧ 1 ≤ j ∧ j ≤ 33 ∧ Hid (Below w14.heap.size w14 wr)) (fun i _ => 33 - (intOf i).toNat)
      case atStart => exact ⟨1, rfl, Nat.le_refl _, by decide, Lib.hid (Below.refl _ _)⟩
      case round =>
        obtain ⟨j, rfl, hj1, hj, hbr⟩ := hrel
        by_cases hjm : j < 33
        · have hd : decide ((j : Int) < 33) = true := by simp; omega
          obtain ⟨_, hla, hlb, hll⟩ := Hs.out
          rw [← Hll.out] at hll
          have h1 : j < la.length := by omega
          have h2 : j < lb.length := by omega
          have h3 : j < ll.length := by omega
          have hrw := Hrow.out j (by omega) h1 h2 h3
          obtain ⟨b1, o1, rfl, hc1, hlt1, hcell1⟩ := (H14.out.1).2.resolve_left (by omega)
          obtain ⟨b2, o2, rfl, hc2, hlt2, hcell2⟩ := (H14.out.2.1).2.resolve_left (by omega)
          obtain ⟨b3, o3, rfl, hc3, hlt3, hcell3⟩ := (H14.out.2.2.1).2.resolve_left (by omega)
          have i1 : (33 : Int) ≤ ca := by omega
          have i2 : (33 : Int) ≤ cb := by omega
          have i3 : (33 : Int) ≤ cl := by omega
          have gA := hcell1 j h1
          have gB := hcell2 j h2
          have gL := hcell3 j h3
          rw [hrw] at gL
          generalize la[j] = pA at *
          generalize lb[j] = pB at *
          obtain ⟨f, t⟩ := pA
          obtain ⟨f2, t2⟩ := pB
          have jb : (j : Int) < 33 := by omega
          obtain ⟨we, hwe⟩ : ∃ we, we = wr.alloc (.cells #[.int .i64 f, .int .i64 t] 47) := ⟨_, rfl⟩
          have hale : Below wr.heap.size wr we := by rw [hwe]; exact K.alloc_below _ _
          have hbx : we.heap[wr.heap.size]? = some (.cells #[.int .i64 f, .int .i64 t] 47) := by rw [hwe]; exact World.alloc_heap_new wr _
          have kA0 : wr.cell? ⟨b1, o1 + j * 2, none⟩ = some (.int .i64 f) := by rw [hbr.out.cell (p := ⟨b1, o1 + j * 2, none⟩) hlt1]; exact gA.1
          have kA1 : wr.cell? ⟨b1, o1 + j * 2 + 1, none⟩ = some (.int .i64 t) := by rw [hbr.out.cell (p := ⟨b1, o1 + j * 2 + 1, none⟩) hlt1]; exact gA.2
          have hbe := hbr.out.trans (hale.mono hbr.out.size)
          have x0 : we.cell? ⟨wr.heap.size, 0, none⟩ = some (.int .i64 f) := by rw [cells_at hbx]; rfl
          have x1 : we.cell? ⟨wr.heap.size, 1, none⟩ = some (.int .i64 t) := by rw [cells_at hbx]; rfl
          have HgB := Lib.hid (fun (w' : World) (h : Below w14.heap.size w14 w') => (show w'.cell? ⟨b2, o2 + j * 2, none⟩ = some (.int .i64 f2) ∧ w'.cell? ⟨b2, o2 + j * 2 + 1, none⟩ = some (.int .i64 t2) from by
            rw [h.cell (p := ⟨b2, o2 + j * 2, none⟩) hlt2, h.cell (p := ⟨b2, o2 + j * 2 + 1, none⟩) hlt2]; exact gB))
          have HgL := Lib.hid (fun (w' : World) (h : Below w14.heap.size w14 w') => (show w'.cell? ⟨b3, o3 + j * 2, none⟩ = some (.int .i64 (if (f, t).1 = -1 then (f2, t2) else (f, t)).1) ∧ w'.cell? ⟨b3, o3 + j * 2 + 1, none⟩ = some (.int .i64 (if (f, t).1 = -1 then (f2, t2) else (f, t)).2) from by
            rw [h.cell (p := ⟨b3, o3 + j * 2, none⟩) hlt3, h.cell (p := ⟨b3, o3 + j * 2 + 1, none⟩) hlt3]; exact gL))
          have Hbx := Lib.hid (And.intro hbx hale)
          have Hbe0 := Lib.hid hbe
          clear hla hlb hll h1 h2 h3 hrw hcell1 hcell2 hcell3 hc1 hc2 hc3 gA gB gL hlt1 hlt2 hlt3 hbx hale hbe
          go_upto_region 23 with fail
          rw [← hwe]
          clear hwe
          by_cases hf : f = -1
          · subst hf
            obtain ⟨we2, hwe2⟩ : ∃ we2, we2 = (we.setCell ⟨wr.heap.size, 0, none⟩ (.int .i64 f2)).setCell ⟨wr.heap.size, 1, none⟩ (.int .i64 t2) := ⟨_, rfl⟩
            have hts := two_set Hbx.out.1 0 (.int .i64 f2) (.int .i64 t2)
            have hbx2 : we2.heap[wr.heap.size]? = some (.cells #[.int .i64 f2, .int .i64 t2] 47) := by rw [hwe2]; exact hts.1
            have hb2 : Below wr.heap.size wr we2 := by
              rw [hwe2]
              exact (Hbx.out.2.setCell (Nat.le_refl _) _).setCell (Nat.le_refl _) _
            have u0 : we.cell? ⟨b2, o2 + j * 2, none⟩ = some (.int .i64 f2) := (HgB.out we Hbe0.out).1
            have u1 : we.cell? ⟨b2, o2 + j * 2 + 1, none⟩ = some (.int .i64 t2) := (HgB.out we Hbe0.out).2
            have uf : ∀ o, we.frozen? ⟨wr.heap.size, o, none⟩ = false := fun o => by simp [World.frozen?, Hbx.out.1]
            have Hbe := Lib.hid (hbr.out.trans (hb2.mono hbr.out.size))
            have HcL : Hid (∀ w', Below we2.heap.size we2 w' → w'.cell? ⟨b3, o3 + j * 2, none⟩ = some (.int .i64 f2) ∧ w'.cell? ⟨b3, o3 + j * 2 + 1, none⟩ = some (.int .i64 t2)) := Lib.hid fun w' h => HgL.out w' (Hbe.out.trans (h.mono Hbe.out.size))
            have HcW : Hid (∀ w', Below we2.heap.size we2 w' → w'.cell? ⟨wr.heap.size, 0, none⟩ = some (.int .i64 f2) ∧ w'.cell? ⟨wr.heap.size, 0 + 1, none⟩ = some (.int .i64 t2)) := Lib.hid fun w' h => by
              have hl := lt_of_block hbx2
              rw [h.cell (p := ⟨wr.heap.size, 0, none⟩) hl, h.cell (p := ⟨wr.heap.size, 0 + 1, none⟩) hl, cells_at hbx2, cells_at hbx2]
              exact ⟨rfl, rfl⟩
            have hnn : Nonempty (Later we2) := Later.nonempty we2
            clear hts hbx2 hb2
            go_upto_region 25 with fail
            rw [← hwe2]
            clear hwe2
            refine wp_region_later (Below.refl _ _) (by kernel_rfl) (by kernel_rfl) ?_
            repeat (first
              | go_big_quiet_skip
              | (go_big_quiet_want; refine quiet_load_span _ rfl b3 (o3 + j * 2) f2 t2 rfl (fun w' ⟨L, hL⟩ => hL ▸ HcL.out _ L.ok) ?_; go_big_quiet_on; simp only [Act.put, List.setIfInBounds_toArray, List.set_cons_zero, List.set_cons_succ])
              | (go_big_quiet_want; refine quiet_load_span _ rfl wr.heap.size 0 f2 t2 rfl (fun w' ⟨L, hL⟩ => hL ▸ HcW.out _ L.ok) ?_; go_big_quiet_on; simp only [Act.put, List.setIfInBounds_toArray, List.set_cons_zero, List.set_cons_succ])
              | go_big_quiet_step (fail))
            refine wpQuiet_nil ?_
            intro w' hw'
            obtain ⟨L', rfl⟩ := hw'
            go_wp2_with fail
            go_roundw
            case rel => exact ⟨j + 1, by go_num, by omega, by omega, Lib.hid (Hbe.out.trans (L'.ok.mono Hbe.out.size))⟩
            case measure => simp [intOf]; omega
          · have hf1 : (f == -1) = false := by simpa using hf
            have Hbe := Hbe0
            have HcL : Hid (∀ w', Below we.heap.size we w' → w'.cell? ⟨b3, o3 + j * 2, none⟩ = some (.int .i64 f) ∧ w'.cell? ⟨b3, o3 + j * 2 + 1, none⟩ = some (.int .i64 t)) := Lib.hid fun w' h => by
              have := HgL.out w' (Hbe.out.trans (h.mono Hbe.out.size))
              rw [if_neg hf] at this
              exact this
            have HcW : Hid (∀ w', Below we.heap.size we w' → w'.cell? ⟨wr.heap.size, 0, none⟩ = some (.int .i64 f) ∧ w'.cell? ⟨wr.heap.size, 0 + 1, none⟩ = some (.int .i64 t)) := Lib.hid fun w' h => by
              have hl := lt_of_block Hbx.out.1
              rw [h.cell (p := ⟨wr.heap.size, 0, none⟩) hl, h.cell (p := ⟨wr.heap.size, 0 + 1, none⟩) hl, cells_at Hbx.out.1, cells_at Hbx.out.1]
              exact ⟨rfl, rfl⟩
            have hnn : Nonempty (Later we) := Later.nonempty we
            clear hf
            go_upto_region 25 with fail
            refine wp_region_later (Below.refl _ _) (by kernel_rfl) (by kernel_rfl) ?_
            repeat (first
              | go_big_quiet_skip
              | (go_big_quiet_want; refine quiet_load_span _ rfl b3 (o3 + j * 2) f t rfl (fun w' ⟨L, hL⟩ => hL ▸ HcL.out _ L.ok) ?_; go_big_quiet_on; simp only [Act.put, List.setIfInBounds_toArray, List.set_cons_zero, List.set_cons_succ])
              | (go_big_quiet_want; refine quiet_load_span _ rfl wr.heap.size 0 f t rfl (fun w' ⟨L, hL⟩ => hL ▸ HcW.out _ L.ok) ?_; go_big_quiet_on; simp only [Act.put, List.setIfInBounds_toArray, List.set_cons_zero, List.set_cons_succ])
              | go_big_quiet_step (fail))
            refine wpQuiet_nil ?_
            intro w' hw'
            obtain ⟨L', rfl⟩ := hw'
            go_wp2_with fail
            go_roundw
            case rel => exact ⟨j + 1, by go_num, by omega, by omega, Lib.hid (Hbe.out.trans (L'.ok.mono Hbe.out.size))⟩
            case measure => simp [intOf]; omega
        · have hd : decide ((j : Int) < 33) = false := by simp; omega
          go_wp2_with fail
          go_ret
          exact ⟨rfl, HbW.out.trans ((H14.out.2.2.2.trans (hbr.out.mono H14.out.2.2.2.size)).mono HbW.out.size)⟩

end V
end Go.Proofs.YtonhmjfopidacaaDoor
