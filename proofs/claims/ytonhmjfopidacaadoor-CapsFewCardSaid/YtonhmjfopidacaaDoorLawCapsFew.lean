/- The law CapsFew, walked: any core, any value, any number of groups. -/
import Derived.Test.YtonhmjfopidacaaDoorCapsLaw
namespace Go.Proofs.YtonhmjfopidacaaDoor
namespace V
set_option maxRecDepth 100000
open Go.RowKit
set_option maxHeartbeats 16000000 in
theorem capsFew_walk (x : K.Cr) (cs : List Value) (y : Vl) (ds : List Value) (n : Int) (_hn : fits64 n) (w : World) (hx : K.Cr.at w x cs) (hy : Vl.at w y ds) (hP : PowAt w) :
    Calls Tryd.prog 7 #[.agg cs.toArray, .agg ds.toArray, .int .i64 n] w fun e w' => e = .returned (.bool true) ∧ Below w.heap.size w w' := by
  obtain ⟨W, hW⟩ : ∃ W, W = (w.alloc (.cells cs.toArray 28)).alloc (.cells ds.toArray 39) := ⟨_, rfl⟩
  have hbW : Below w.heap.size w W := by rw [hW]; exact (((Below.refl _ _).alloc (Nat.le_refl _) _).alloc (by simp) _)
  have hsW : W.heap.size = w.heap.size + 2 := by rw [hW]; simp
  have hxx : K.Core7 W w.heap.size 0 cs := by
    have h := World.alloc_heap_new w (.cells cs.toArray 28)
    rw [hW]
    exact core7_below (K.core7_in h (K.at_len hx)) (B := w.heap.size + 1) (by omega) ((Below.refl _ _).alloc (by first | (simp; done) | (simp; omega)) _)
  have hxy : Val3 W (w.heap.size + 1) 0 ds := by
    have h := World.alloc_heap_new (w.alloc (.cells cs.toArray 28)) (.cells ds.toArray 39)
    rw [World.size_alloc] at h
    rw [hW]
    exact (val3_in h (at_len hy))
  have HXx : Hid (∀ w', Below W.heap.size W w' → K.Core7 w' w.heap.size 0 cs) := Lib.hid fun w' h => core7_below hxx (by omega) h
  have HAx : Hid (∀ w', Below W.heap.size W w' → K.Cr.at w' x cs) := Lib.hid fun w' h => K.Cr.at_below (hbW.trans (h.mono hbW.size)) (Nat.le_refl _) _ _ hx
  have HXy : Hid (∀ w', Below W.heap.size W w' → Val3 w' (w.heap.size + 1) 0 ds) := Lib.hid fun w' h => Val3.below hxy (by omega) h
  have HAy : Hid (∀ w', Below W.heap.size W w' → Vl.at w' y ds) := Lib.hid fun w' h => Vl.at_below (hbW.trans (h.mono hbW.size)) (Nat.le_refl _) _ _ hy
  have HbW := Lib.hid hbW
  have HsW := Lib.hid hsW
  clear hbW hsW hxx hxy
  have Haw : Hid (∀ w', Below W.heap.size W w' → Calls Tryd.prog 8 #[] w' fun e w' => e = .returned (.bool true) ∧ Below W.heap.size W w') := Lib.hid fun w' h => by
    refine (awake12_any w' (pow_below hP (HbW.out.trans (h.mono HbW.out.size)))).mono ?_
    rintro e w3 ⟨rfl, hb⟩
    exact ⟨rfl, h.trans (hb.mono h.size)⟩
  have Hbig : Hid (∀ w', Below W.heap.size W w' → Calls Tryd.prog 24 #[.agg cs.toArray, .int .i64 60] w' fun e w' => e = .returned (.bool (K.bigN 60 x)) ∧ Below W.heap.size W w') := Lib.hid fun w' h => by
    refine (K.big_any 60 x cs w' (by decide) (HAx.out _ h)).mono ?_
    rintro e w3 ⟨rfl, hb⟩
    exact ⟨rfl, h.trans (hb.mono h.size)⟩
  have Hwide : Hid (∀ w', Below W.heap.size W w' → Calls Tryd.prog 25 #[.agg ds.toArray, .int .i64 30] w' fun e w' => e = .returned (.bool (wideN 30 y)) ∧ Below W.heap.size W w') := Lib.hid fun w' h => by
    refine (wide_any 30 y ds w' (by decide) (HAy.out _ h)).mono ?_
    rintro e w3 ⟨rfl, hb⟩
    exact ⟨rfl, h.trans (hb.mono h.size)⟩
  have Hgood : Hid (∀ w', Below W.heap.size W w' → Calls Tryd.prog 32 #[.agg cs.toArray, .agg ds.toArray] w' fun e w' => e = .returned (.bool (goodV x y)) ∧ Below W.heap.size W w') := Lib.hid fun w' h => by
    refine (good_any (HAx.out _ h) (HAy.out _ h)).mono ?_
    rintro e w3 ⟨rfl, hb⟩
    exact ⟨rfl, h.trans (hb.mono h.size)⟩
  have HofN : Hid (∀ (m : Nat), m ≤ 32 → goodV x y = true → ∀ w', Below W.heap.size W w' → Calls Tryd.prog 13 #[.agg cs.toArray, .agg ds.toArray, .int .i64 7, .int .i64 (m : Int)] w' (SpPost w' (spansL 7 (cap x y (7, none32)) m) 0)) := Lib.hid fun m hm hg w' h => of_ok (HAx.out _ h) (HAy.out _ h) 7 m ⟨by decide, by decide, hm⟩ hg
  obtain ⟨k1, s1, n1, a1, len1, cap1, rfl⟩ := K.at_lit hx
  obtain ⟨k2, z2, a2, len2, cap2, rfl⟩ := at_lit hy
  clear hx hy hP
  cases B0 : K.bigN 60 x with
  | true =>
    rw [B0] at Hbig
    go_enter Tryd.func7, Tryd.ntmps7
    go_upto_region 1 with fail
    rw [← hW]
    clear hW
    go_wp2_with (first
      | (go_at_call 8; refine (Haw.out _ (Below.refl _ _)).mono ?_; rintro e W1 ⟨rfl, hb1⟩; have q0x := HXx.out _ hb1; have call0 := Hbig.out _ hb1; clear hb1)
      | (refine K.wpList_load_core rfl _ rfl w.heap.size 0 _ rfl q0x ?_)
      | (go_at_call 24; refine call0.mono ?_; clear call0; rintro e W2 ⟨rfl, hb2⟩; clear q0x; have Hb2 := Lib.hid hb2; clear hb2)
      | fail)
    go_ret
    exact ⟨rfl, HbW.out.trans (Hb2.out.mono HbW.out.size)⟩
  | false =>
  rw [B0] at Hbig
  cases B1 : wideN 30 y with
  | true =>
    rw [B1] at Hwide
    go_enter Tryd.func7, Tryd.ntmps7
    go_upto_region 1 with fail
    rw [← hW]
    clear hW
    go_wp2_with (first
      | (go_at_call 8; refine (Haw.out _ (Below.refl _ _)).mono ?_; rintro e W1 ⟨rfl, hb1⟩; have q0x := HXx.out _ hb1; have call0 := Hbig.out _ hb1; clear hb1)
      | (refine K.wpList_load_core rfl _ rfl w.heap.size 0 _ rfl q0x ?_)
      | (go_at_call 24; refine call0.mono ?_; clear call0; rintro e W2 ⟨rfl, hb2⟩; clear q0x; have q1y := HXy.out _ hb2; have call1 := Hwide.out _ hb2; clear hb2)
      | (refine wpList_load_val_want rfl _ rfl (w.heap.size + 1) 0 _ rfl q1y ?_)
      | (go_at_call 25; refine call1.mono ?_; clear call1; rintro e W3 ⟨rfl, hb3⟩; clear q1y; have Hb3 := Lib.hid hb3; clear hb3)
      | fail)
    go_ret
    exact ⟨rfl, HbW.out.trans (Hb3.out.mono HbW.out.size)⟩
  | false =>
  rw [B1] at Hwide
  cases B2 : goodV x y with
  | false =>
    rw [B2] at Hgood
    go_enter Tryd.func7, Tryd.ntmps7
    go_upto_region 1 with fail
    rw [← hW]
    clear hW
    go_wp2_with (first
      | (go_at_call 8; refine (Haw.out _ (Below.refl _ _)).mono ?_; rintro e W1 ⟨rfl, hb1⟩; have q0x := HXx.out _ hb1; have call0 := Hbig.out _ hb1; clear hb1)
      | (refine K.wpList_load_core rfl _ rfl w.heap.size 0 _ rfl q0x ?_)
      | (go_at_call 24; refine call0.mono ?_; clear call0; rintro e W2 ⟨rfl, hb2⟩; clear q0x; have q1y := HXy.out _ hb2; have call1 := Hwide.out _ hb2; clear hb2)
      | (refine wpList_load_val_want rfl _ rfl (w.heap.size + 1) 0 _ rfl q1y ?_)
      | (go_at_call 25; refine call1.mono ?_; clear call1; rintro e W3 ⟨rfl, hb3⟩; clear q1y; have q2x := HXx.out _ hb3; have q2y := HXy.out _ hb3; have call2 := Hgood.out _ hb3; clear hb3)
      | (refine K.wpList_load_node_want rfl _ rfl w.heap.size 0 _ rfl q2x ?_)
      | (refine wpList_load_val_want rfl _ rfl (w.heap.size + 1) 0 _ rfl q2y ?_)
      | (go_at_call 32; refine call2.mono ?_; clear call2; rintro e W4 ⟨rfl, hb4⟩; clear q2x q2y; have Hb4 := Lib.hid hb4; clear hb4)
      | fail)
    go_ret
    exact ⟨rfl, HbW.out.trans (Hb4.out.mono HbW.out.size)⟩
  | true =>
  rw [B2] at Hgood
  by_cases d1 : n < 0
  · have d1' : decide (n < 0) = true := decide_eq_true d1
    clear d1
    go_enter Tryd.func7, Tryd.ntmps7
    go_upto_region 1 with fail
    rw [← hW]
    clear hW
    go_wp2_with (first
      | (go_at_call 8; refine (Haw.out _ (Below.refl _ _)).mono ?_; rintro e W1 ⟨rfl, hb1⟩; have q0x := HXx.out _ hb1; have call0 := Hbig.out _ hb1; clear hb1)
      | (refine K.wpList_load_core rfl _ rfl w.heap.size 0 _ rfl q0x ?_)
      | (go_at_call 24; refine call0.mono ?_; clear call0; rintro e W2 ⟨rfl, hb2⟩; clear q0x; have q1y := HXy.out _ hb2; have call1 := Hwide.out _ hb2; clear hb2)
      | (refine wpList_load_val_want rfl _ rfl (w.heap.size + 1) 0 _ rfl q1y ?_)
      | (go_at_call 25; refine call1.mono ?_; clear call1; rintro e W3 ⟨rfl, hb3⟩; clear q1y; have q2x := HXx.out _ hb3; have q2y := HXy.out _ hb3; have call2 := Hgood.out _ hb3; clear hb3)
      | (refine K.wpList_load_node_want rfl _ rfl w.heap.size 0 _ rfl q2x ?_)
      | (refine wpList_load_val_want rfl _ rfl (w.heap.size + 1) 0 _ rfl q2y ?_)
      | (go_at_call 32; refine call2.mono ?_; clear call2; rintro e W4 ⟨rfl, hb4⟩; clear q2x q2y; have Hb4 := Lib.hid hb4; clear hb4)
      | fail)
    go_ret
    exact ⟨rfl, HbW.out.trans (Hb4.out.mono HbW.out.size)⟩
  by_cases d2 : 32 < n
  · have d1' : decide (n < 0) = false := decide_eq_false d1
    have d2' : decide (32 < n) = true := decide_eq_true d2
    clear d1 d2
    go_enter Tryd.func7, Tryd.ntmps7
    go_upto_region 1 with fail
    rw [← hW]
    clear hW
    go_wp2_with (first
      | (go_at_call 8; refine (Haw.out _ (Below.refl _ _)).mono ?_; rintro e W1 ⟨rfl, hb1⟩; have q0x := HXx.out _ hb1; have call0 := Hbig.out _ hb1; clear hb1)
      | (refine K.wpList_load_core rfl _ rfl w.heap.size 0 _ rfl q0x ?_)
      | (go_at_call 24; refine call0.mono ?_; clear call0; rintro e W2 ⟨rfl, hb2⟩; clear q0x; have q1y := HXy.out _ hb2; have call1 := Hwide.out _ hb2; clear hb2)
      | (refine wpList_load_val_want rfl _ rfl (w.heap.size + 1) 0 _ rfl q1y ?_)
      | (go_at_call 25; refine call1.mono ?_; clear call1; rintro e W3 ⟨rfl, hb3⟩; clear q1y; have q2x := HXx.out _ hb3; have q2y := HXy.out _ hb3; have call2 := Hgood.out _ hb3; clear hb3)
      | (refine K.wpList_load_node_want rfl _ rfl w.heap.size 0 _ rfl q2x ?_)
      | (refine wpList_load_val_want rfl _ rfl (w.heap.size + 1) 0 _ rfl q2y ?_)
      | (go_at_call 32; refine call2.mono ?_; clear call2; rintro e W4 ⟨rfl, hb4⟩; clear q2x q2y; have Hb4 := Lib.hid hb4; clear hb4)
      | fail)
    go_ret
    exact ⟨rfl, HbW.out.trans (Hb4.out.mono HbW.out.size)⟩
  obtain ⟨m, rfl⟩ : ∃ m : Nat, n = (m : Int) := ⟨n.toNat, by omega⟩
  have hm : m ≤ 32 := by omega
  have e1 : decide ((m : Int) < 0) = false := decide_eq_false d1
  have e2 : decide ((32 : Int) < (m : Int)) = false := decide_eq_false d2
  have e3 : decide (32 < m) = false := decide_eq_false (by omega)
  have Hm := Lib.hid hm
  have Hof1 := Lib.hid (HofN.out m hm B2)
  have Hof2 := Lib.hid (HofN.out 32 (by decide) B2)
  obtain ⟨P, hP⟩ : ∃ P, P = cap x y (7, none32) := ⟨_, rfl⟩
  rw [← hP] at Hof1 Hof2
  clear d1 d2 hm hP
  generalize hla : spansL 7 P m = la at *
  generalize hlb : spansL 7 P 32 = lb at *
  have hlal : la.length = m + 1 := by rw [← hla, spansL_len]
  have hlbl : lb.length = 33 := by rw [← hlb, spansL_len]
  obtain ⟨L1, hL1⟩ : ∃ L1, L1 = la.length := ⟨_, rfl⟩
  obtain ⟨L2, hL2⟩ : ∃ L2, L2 = lb.length := ⟨_, rfl⟩
  have hsame : ∀ j (h1 : j < la.length) (h2 : j < lb.length), la[j] = lb[j] := fun j h1 h2 => by
    subst hla hlb
    exact spansL_same 7 P (by have := Hm.out; omega) j h1 h2
  have hmI : (m : Int) ≤ 9223372036854775806 := by have := Hm.out; omega
  have hne : ((L1 : Int) != (m : Int) + 1) = false := by rw [hL1, hlal]; simp
  have hne2 : ((L2 : Int) != 33) = false := by rw [hL2, hlbl]; rfl
  have Hs := Lib.hid (And.intro hsame (And.intro (hL1.trans hlal) (And.intro (hL2.trans hlbl) (And.intro hL1 hL2))))
  clear hsame hlal hlbl hla hlb hL1 hL2
  go_enter Tryd.func7, Tryd.ntmps7
  go_upto_region 1 with fail
  rw [← hW]
  clear hW
  go_upto_region 5 with (first
    | (go_at_call 8; refine (Haw.out _ (Below.refl _ _)).mono ?_; rintro e W1 ⟨rfl, hb1⟩; have q0x := HXx.out _ hb1; have call0 := Hbig.out _ hb1; clear hb1)
    | (refine K.wpList_load_core rfl _ rfl w.heap.size 0 _ rfl q0x ?_)
    | (go_at_call 24; refine call0.mono ?_; clear call0; rintro e W2 ⟨rfl, hb2⟩; clear q0x; have q1y := HXy.out _ hb2; have call1 := Hwide.out _ hb2; clear hb2)
    | (refine wpList_load_val_want rfl _ rfl (w.heap.size + 1) 0 _ rfl q1y ?_)
    | (go_at_call 25; refine call1.mono ?_; clear call1; rintro e W3 ⟨rfl, hb3⟩; clear q1y; have q2x := HXx.out _ hb3; have q2y := HXy.out _ hb3; have call2 := Hgood.out _ hb3; clear hb3)
    | (refine K.wpList_load_node_want rfl _ rfl w.heap.size 0 _ rfl q2x ?_)
    | (refine wpList_load_val_want rfl _ rfl (w.heap.size + 1) 0 _ rfl q2y ?_)
    | (go_at_call 32; refine call2.mono ?_; clear call2; rintro e W4 ⟨rfl, hb4⟩; clear q2x q2y; have Hb4 := Lib.hid hb4; clear hb4)
    | fail)
  have q3x := HXx.out _ Hb4.out
  have q3y := HXy.out _ Hb4.out
  go_upto_region 6 with (first
    | (refine K.wpList_load_core rfl _ rfl w.heap.size 0 _ rfl q3x ?_)
    | (refine wpList_load_val rfl _ rfl (w.heap.size + 1) 0 _ rfl q3y ?_)
    | (go_at_call 13; refine ((Hof1.out _ Hb4.out).mono (fun _ _ => SpPost.n Hs.out.2.2.2.1.symm)).mono ?_; rintro e W5 ⟨pa, ca, rfl, hspa, hb5⟩; have H5 := Lib.hid (And.intro hspa (Hb4.out.trans (hb5.mono Hb4.out.size))); clear hspa hb5 q3x q3y)
    | fail)
  have q5x := HXx.out _ H5.out.2
  have q5y := HXy.out _ H5.out.2
  go_upto_region 7 with (first
    | (refine K.wpList_load_core rfl _ rfl w.heap.size 0 _ rfl q5x ?_)
    | (refine wpList_load_val rfl _ rfl (w.heap.size + 1) 0 _ rfl q5y ?_)
    | (go_at_call 13; refine ((Hof2.out _ H5.out.2).mono (fun _ _ => SpPost.n Hs.out.2.2.2.2.symm)).mono ?_; rintro e W6 ⟨pb, cb, rfl, hspb, hb6⟩; have H6 := Lib.hid (And.intro (H5.out.1.below hb6) (And.intro hspb (H5.out.2.trans (hb6.mono H5.out.2.size)))); clear hspb hb6 q5x q5y)
    | fail)
  go_wp2_with fail
  go_loopw [11] (fun i wr => ∃ j : Nat, i = .int .i64 j ∧ j ≤ m + 1 ∧ Hid (Below W6.heap.size W6 wr)) (fun i _ => m + 1 - (intOf i).toNat)
  case atStart => exact ⟨0, rfl, Nat.zero_le _, Lib.hid (Below.refl _ _)⟩
  case round =>
    obtain ⟨j, rfl, hj, hbr⟩ := hrel
    by_cases hjm : j ≤ m
    · have hd : decide ((j : Int) ≤ (m : Int)) = true := by simp; omega
      obtain ⟨hsame, hla, hlb, hL1, hL2⟩ := Hs.out
      have h1 : j < la.length := by omega
      have h2 : j < lb.length := by have := Hm.out; omega
      obtain ⟨b1, o1, rfl, hc1, _, hcell1⟩ := (H6.out.1.below hbr.out).2.resolve_left (by omega)
      obtain ⟨b2, o2, rfl, hc2, _, hcell2⟩ := (H6.out.2.1.below hbr.out).2.resolve_left (by omega)
      have g1 := hcell1 j h1
      have g2 := hcell2 j h2
      rw [hsame j h1 h2] at g1
      obtain ⟨p0, p1⟩ := g1
      obtain ⟨r0, r1⟩ := g2
      have i1 : (j : Int) < L1 := by omega
      have i2 : (j : Int) < L2 := by omega
      have i3 : (L1 : Int) ≤ ca := by omega
      have i4 : (L2 : Int) ≤ cb := by omega
      generalize lb[j].1 = f at *
      generalize lb[j].2 = t at *
      clear hsame hla hlb hL1 hL2 h1 h2 hcell1 hcell2 hc1 hc2
      go_upto_region 12 with fail
      go_region
      all_goals
        go_wp2_with fail
        go_roundw
        case rel => exact ⟨j + 1, by go_num, by omega, Lib.hid (hbr.out.trans (Below.refl _ _).drew)⟩
        case measure => simp [intOf]; omega
    · have hd : decide ((j : Int) ≤ (m : Int)) = false := by simp; omega
      go_wp2_with fail
      go_ret
      exact ⟨rfl, HbW.out.trans ((H6.out.2.2.trans (hbr.out.mono H6.out.2.2.size)).mono HbW.out.size)⟩

end V
end Go.Proofs.YtonhmjfopidacaaDoor
