/- The law EagerSays, walked: any two values, any list of values of at most so many parts. -/
import Derived.Test.YtblgjcolmaidlaaEagerAwake
import Derived.Test.YtblgjcolmaidlaaEagerRef
import Derived.Test.YtblgjcolmaidlaaValSlim
import Derived.Test.YtblgjcolmaidlaaValWide
import Derived.Deep.DeepCutAuto
namespace Go.Proofs.Ytblgjcolmaidlaa
namespace V
set_option maxRecDepth 100000
open Go.RowKit
theorem eapt_more : ∀ (j : Nat) (l m : List Nat), j < eapt l m → ∃ c, l[j]? = some c ∧ m[j]? = some c
  | _, [], _, h => by rw [eapt] at h; omega
  | _, _ :: _, [], h => by rw [eapt] at h; omega
  | 0, a :: l, b :: m, h => by
    rw [eapt] at h
    by_cases hab : a = b
    · subst hab; exact ⟨a, rfl, rfl⟩
    · rw [if_neg hab] at h; omega
  | j + 1, a :: l, b :: m, h => by
    rw [eapt] at h
    by_cases hab : a = b
    · rw [if_pos hab] at h
      exact eapt_more j l m (by omega)
    · rw [if_neg hab] at h; omega
theorem eapt_stop : ∀ (l m : List Nat), eapt l m < l.length → eapt l m < m.length → ∃ c d, l[eapt l m]? = some c ∧ m[eapt l m]? = some d ∧ c ≠ d
  | [], _, h, _ => by simp at h
  | _ :: _, [], _, h => by simp at h
  | a :: l, b :: m, h, h' => by
    rw [eapt] at h h' ⊢
    by_cases hab : a = b
    · rw [if_pos hab] at h h' ⊢
      exact eapt_stop l m (by simpa using h) (by simpa using h')
    · rw [if_neg hab]
      exact ⟨a, b, rfl, rfl, hab⟩
set_option maxHeartbeats 64000000 in
theorem eagerSays_walk (x : Vl) (cs : List Value) (y : Vl) (ds : List Value) (a0 : Option Addr) (cap0 : Nat) (L : List Vl) (w : World) (hx : Vl.at w x cs) (hy : Vl.at w y ds) (hL : ListAt w L (.slice a0 L.length cap0)) (hsx : x.count ≤ 1048576) (hsy : y.count ≤ 1048576) (hsm : counts L ≤ 1048576) :
    Calls Try.prog 4 #[.agg cs.toArray, .agg ds.toArray, .slice a0 L.length cap0] w fun e w' => e = .returned (.bool true) ∧ Below w.heap.size w w' := by
  have hs : ∀ x ∈ L, Fit x := fun x hx => by have := counts_mem hx; exact fit_up (by omega)
  have hfx : Fit x := fit_up hsx
  have hfy : Fit y := fit_up hsy
  obtain ⟨n, hn⟩ : ∃ n, n = L.length := ⟨_, rfl⟩
  have hL0 := hL
  rw [← hn] at hL0 ⊢
  obtain ⟨W, hW⟩ : ∃ W, W = (w.alloc (.cells cs.toArray 25)).alloc (.cells ds.toArray 25) := ⟨_, rfl⟩
  have hbW : Below w.heap.size w W := by rw [hW]; exact (((Below.refl _ _).alloc (Nat.le_refl _) _).alloc (by simp) _)
  have hsW : W.heap.size = w.heap.size + 2 := by rw [hW]; simp
  have hxx : Val3 W w.heap.size 0 cs := by
    have h := World.alloc_heap_new w (.cells cs.toArray 25)
    rw [hW]
    exact Val3.below (val3_in h (at_len hx)) (B := w.heap.size + 1) (by omega) ((Below.refl _ _).alloc (by first | (simp; done) | (simp; omega)) _)
  have hxy : Val3 W (w.heap.size + 1) 0 ds := by
    have h := World.alloc_heap_new (w.alloc (.cells cs.toArray 25)) (.cells ds.toArray 25)
    rw [World.size_alloc] at h
    rw [hW]
    exact (val3_in h (at_len hy))
  have HXx : Hid (∀ w', Below W.heap.size W w' → Val3 w' w.heap.size 0 cs) := Lib.hid fun w' h => Val3.below hxx (by omega) h
  have HAx : Hid (∀ w', Below W.heap.size W w' → Vl.at w' x cs) := Lib.hid fun w' h => Vl.at_below (hbW.trans (h.mono hbW.size)) (Nat.le_refl _) _ _ hx
  have HXy : Hid (∀ w', Below W.heap.size W w' → Val3 w' (w.heap.size + 1) 0 ds) := Lib.hid fun w' h => Val3.below hxy (by omega) h
  have HAy : Hid (∀ w', Below W.heap.size W w' → Vl.at w' y ds) := Lib.hid fun w' h => Vl.at_below (hbW.trans (h.mono hbW.size)) (Nat.le_refl _) _ _ hy
  have HbW := Lib.hid hbW
  have HsW := Lib.hid hsW
  clear hbW hsW hxx hxy
  have Haw : Hid (∀ w', Below W.heap.size W w' → Calls Try.prog 7 #[] w' fun e w2 => e = .returned (.bool true) ∧ Below w'.heap.size w' w2) := Lib.hid fun w' h => awake14_any w'
  have Hwx : Hid (∀ w', Below W.heap.size W w' → Calls Try.prog 14 #[.agg cs.toArray, .int .i64 30] w' fun e w2 => e = .returned (.bool (wideN 30 x)) ∧ Below w'.heap.size w' w2) := Lib.hid fun w' h => wide_any 30 x cs w' (by decide) (HAx.out _ h)
  have Hwy : Hid (∀ w', Below W.heap.size W w' → Calls Try.prog 14 #[.agg ds.toArray, .int .i64 30] w' fun e w2 => e = .returned (.bool (wideN 30 y)) ∧ Below w'.heap.size w' w2) := Lib.hid fun w' h => wide_any 30 y ds w' (by decide) (HAy.out _ h)
  have Hc : Hid (∀ w', Below W.heap.size W w' → Calls Try.prog 11 #[.agg cs.toArray, .agg ds.toArray] w' fun e w2 => e = .returned (.int .i64 (eord x y)) ∧ Below w'.heap.size w' w2) := Lib.hid fun w' h => eager_cmp x y cs ds w' (HAx.out _ h) (HAy.out _ h) hfx hfy
  have Hap : Hid (∀ w', Below W.heap.size W w' → Calls Try.prog 12 #[.agg cs.toArray, .agg ds.toArray] w' fun e w2 => e = .returned (.int .i64 (eapart x y)) ∧ Below w'.heap.size w' w2) := Lib.hid fun w' h => eager_apart x y cs ds w' (HAx.out _ h) (HAy.out _ h) hfx hfy
  have HBx : Hid (∀ (rs : List Value) (w' : World), Vl.at w' x rs → Calls Try.prog 17 #[.agg rs.toArray] w' fun e w2 => e = .returned (.string (putS x)) ∧ Below w'.heap.size w' w2) := Lib.hid (fun rs w' h => refBits_s h hfx)
  have HBy : Hid (∀ (rs : List Value) (w' : World), Vl.at w' y rs → Calls Try.prog 17 #[.agg rs.toArray] w' fun e w2 => e = .returned (.string (putS y)) ∧ Below w'.heap.size w' w2) := Lib.hid (fun rs w' h => refBits_s h hfy)
  have HRxy : Hid (∀ (rs1 rs2 : List Value) (w' : World), Vl.at w' x rs1 → Vl.at w' y rs2 → Calls Try.prog 15 #[.agg rs1.toArray, .agg rs2.toArray] w' fun e w2 => e = .returned (.int .i64 (eord x y)) ∧ Below w'.heap.size w' w2) := Lib.hid (fun rs1 rs2 w' h1 h2 => refEager_any _ _ _ _ w' h1 h2 hfx hfy)
  have HL : Hid (∀ w', Below W.heap.size W w' → ListAt w' L (.slice a0 n cap0)) := Lib.hid fun w' h => hL0.below (HbW.out.trans (h.mono HbW.out.size))
  have HN := Lib.hid hn
  have Hs := Lib.hid hs
  have HE : Hid (((putS x).toList == (putS y).toList) = decide (nats (putS x) = nats (putS y))) := Lib.hid (eq_list _ _)
  have HAP : Hid (eapart x y = apartL (nats (putS x)) (nats (putS y))) := Lib.hid (by rw [putS_nats, putS_nats])
  obtain ⟨P, hP⟩ : ∃ P, P = L.map Vl.put := ⟨_, rfl⟩
  have HG : Hid (∀ (j : Nat) (hj : j < L.length), P.getD j [] = (L[j]).put) := Lib.hid fun j hj => by rw [hP, List.getD_eq_getElem?_getD, List.getElem?_map, List.getElem?_eq_getElem hj]; rfl
  have HP := Lib.hid hP
  have hbx : (putS x).size ≤ 1152921504606846976 := by rw [putS_size]; have := put_le x; omega
  have hby : (putS y).size ≤ 1152921504606846976 := by rw [putS_size]; have := put_le y; omega
  have Hbb := Lib.hid (And.intro hbx hby)
  have HLN : Hid ((nats (putS x)).length = (putS x).size ∧ (nats (putS y)).length = (putS y).size) := Lib.hid ⟨nats_length _, nats_length _⟩
  generalize eord x y = O at *
  generalize eapart x y = A at *
  obtain ⟨a', cap', he, hmax, hl⟩ := hL
  rw [← hn] at hl
  injection he with ea _ ec
  subst ea ec
  have Hl := Lib.hid hl
  obtain ⟨k1, z1, a1, len1, cap1, rfl⟩ := at_lit hx
  obtain ⟨k2, z2, a2, len2, cap2, rfl⟩ := at_lit hy
  clear hx hy hsx hsy hsm hL0 hmax hl hs hn hP hbx hby hfx hfy
  cases B0 : wideN 30 x with
  | true =>
    rw [B0] at Hwx
    go_enter Try.func4, Try.ntmps4
    go_upto_region 1 with fail
    rw [← hW]
    clear hW
    go_wp2_with fail
    refine (Haw.out _ (Below.refl _ _)).mono ?_
    rintro e W1 ⟨rfl, hb1⟩
    have Hb1 := Lib.hid hb1
    clear hb1
    go_wp2_with (first
      | (refine wpList_load_val rfl _ rfl w.heap.size 0 _ rfl (HXx.out _ Hb1.out) ?_)
      | fail)
    refine (Hwx.out _ Hb1.out).mono ?_
    rintro e W2 ⟨rfl, hb2⟩
    have Hb2 := Lib.hid (Hb1.out.trans (hb2.mono Hb1.out.size))
    clear hb2
    go_wp2_with fail
    go_ret
    exact ⟨rfl, HbW.out.trans (Hb2.out.mono HbW.out.size)⟩
  | false =>
  have Hslx := Lib.hid (slim_of_wide 30 x B0)
  rw [B0] at Hwx
  cases B1 : wideN 30 y with
  | true =>
    rw [B1] at Hwy
    go_enter Try.func4, Try.ntmps4
    go_upto_region 1 with fail
    rw [← hW]
    clear hW
    go_wp2_with fail
    refine (Haw.out _ (Below.refl _ _)).mono ?_
    rintro e W1 ⟨rfl, hb1⟩
    have Hb1 := Lib.hid hb1
    clear hb1
    go_wp2_with (first
      | (refine wpList_load_val rfl _ rfl w.heap.size 0 _ rfl (HXx.out _ Hb1.out) ?_)
      | fail)
    refine (Hwx.out _ Hb1.out).mono ?_
    rintro e W2 ⟨rfl, hb2⟩
    have Hb2 := Lib.hid (Hb1.out.trans (hb2.mono Hb1.out.size))
    clear hb2
    go_wp2_with (first
      | (refine wpList_load_val_want rfl _ rfl (w.heap.size + 1) 0 _ rfl (HXy.out _ Hb2.out) ?_)
      | fail)
    refine (Hwy.out _ Hb2.out).mono ?_
    rintro e W3 ⟨rfl, hb3⟩
    have Hb3 := Lib.hid (Hb2.out.trans (hb3.mono Hb2.out.size))
    clear hb3
    go_wp2_with fail
    go_ret
    exact ⟨rfl, HbW.out.trans (Hb3.out.mono HbW.out.size)⟩
  | false =>
  have Hsly := Lib.hid (slim_of_wide 30 y B1)
  rw [B1] at Hwy
  clear B0 B1
  by_cases hn2 : 12 < n
  · have d2 : decide ((12 : Int) < n) = true := by simp; omega
    have d3 : decide ((n : Int) > 12) = true := d2
    go_enter Try.func4, Try.ntmps4
    go_upto_region 1 with fail
    rw [← hW]
    clear hW
    go_wp2_with fail
    refine (Haw.out _ (Below.refl _ _)).mono ?_
    rintro e W1 ⟨rfl, hb1⟩
    have Hb1 := Lib.hid hb1
    clear hb1
    go_wp2_with (first
      | (refine wpList_load_val rfl _ rfl w.heap.size 0 _ rfl (HXx.out _ Hb1.out) ?_)
      | fail)
    refine (Hwx.out _ Hb1.out).mono ?_
    rintro e W2 ⟨rfl, hb2⟩
    have Hb2 := Lib.hid (Hb1.out.trans (hb2.mono Hb1.out.size))
    clear hb2
    go_wp2_with (first
      | (refine wpList_load_val_want rfl _ rfl (w.heap.size + 1) 0 _ rfl (HXy.out _ Hb2.out) ?_)
      | fail)
    refine (Hwy.out _ Hb2.out).mono ?_
    rintro e W3 ⟨rfl, hb3⟩
    have Hb3 := Lib.hid (Hb2.out.trans (hb3.mono Hb2.out.size))
    clear hb3
    go_wp2_with fail
    go_ret
    exact ⟨rfl, HbW.out.trans (Hb3.out.mono HbW.out.size)⟩
  have d2 : decide ((12 : Int) < n) = false := by simp; omega
  have d3 : decide ((n : Int) > 12) = false := d2
  have HB : Hid (n ≤ 12) := Lib.hid (by omega)
  have hnI : (n : Int) ≤ 12 := by omega
  go_enter Try.func4, Try.ntmps4
  go_upto_region 1 with fail
  rw [← hW]
  clear hW
  go_wp2_with fail
  refine (Haw.out _ (Below.refl _ _)).mono ?_
  rintro e W1 ⟨rfl, hb1⟩
  have Hb1 := Lib.hid hb1
  clear hb1
  go_wp2_with (first
    | (refine wpList_load_val rfl _ rfl w.heap.size 0 _ rfl (HXx.out _ Hb1.out) ?_)
    | fail)
  refine (Hwx.out _ Hb1.out).mono ?_
  rintro e W2 ⟨rfl, hb2⟩
  have Hb2 := Lib.hid (Hb1.out.trans (hb2.mono Hb1.out.size))
  clear hb2
  go_wp2_with (first
    | (refine wpList_load_val_want rfl _ rfl (w.heap.size + 1) 0 _ rfl (HXy.out _ Hb2.out) ?_)
    | fail)
  refine (Hwy.out _ Hb2.out).mono ?_
  rintro e W3 ⟨rfl, hb3⟩
  have Hb3 := Lib.hid (Hb2.out.trans (hb3.mono Hb2.out.size))
  clear hb3
  have Hvx : Hid (∀ w', Below W.heap.size W w' → Calls Try.prog 16 #[.agg #[.int .i64 k1, .int .u8 z1, .slice a1 len1 cap1]] w' fun e w2 => ∃ rs : List Value, e = .returned (.agg rs.toArray) ∧ Vl.at w2 x rs ∧ Below w'.heap.size w' w2) := Lib.hid (fun w' h => (lawVal_any 30 x _ w' Hslx.out (HAx.out _ h)).mono fun e w2 ⟨rs, e1, e2, e3⟩ => ⟨rs, e1, e2.ref, e3⟩)
  have Hvy : Hid (∀ w', Below W.heap.size W w' → Calls Try.prog 16 #[.agg #[.int .i64 k2, .int .u8 z2, .slice a2 len2 cap2]] w' fun e w2 => ∃ rs : List Value, e = .returned (.agg rs.toArray) ∧ Vl.at w2 y rs ∧ Below w'.heap.size w' w2) := Lib.hid (fun w' h => (lawVal_any 30 y _ w' Hsly.out (HAy.out _ h)).mono fun e w2 ⟨rs, e1, e2, e3⟩ => ⟨rs, e1, e2.ref, e3⟩)
  go_wp2_with fail
  clear hn2
  go_loopw [7, 8] (fun bv i wr => ∃ (j : Nat) (bi : Int), i = .int .i64 j ∧ bv = .int .i64 bi ∧ j ≤ n ∧ Hid (j = 0 ∧ bi = -1 ∨ 0 < j ∧ bi = (ebst P (j - 1) : Nat) ∧ ∃ z, L[ebst P (j - 1)]? = some z ∧ slimV 20 z = true) ∧ Hid (Below W3.heap.size W3 wr)) (fun _ i _ => n - (intOf i).toNat)
  case atStart => exact ⟨0, -1, rfl, rfl, Nat.zero_le _, Lib.hid (.inl ⟨rfl, rfl⟩), Lib.hid (Below.refl _ _)⟩
  case round =>
    obtain ⟨j, bi, rfl, rfl, hj, hbest, hB⟩ := hrel
    have HBr := Lib.hid (et3 Hb3.out hB.out)
    by_cases hjn : j < n
    · have hdj : decide ((j : Int) < n) = true := by simp; omega
      have hjL : j < L.length := by have := HN.out; omega
      obtain ⟨b0, off0, e0, hcap0, hbw0, hv0⟩ := Hl.out.resolve_left (by omega)
      subst e0
      have hcapI : (n : Int) ≤ cap0 := by omega
      obtain ⟨d1, hc1, hat1⟩ := vals_get _ b0 L off0 hv0 j hjL
      have HW1 := Lib.hid (fun w' (h : Below wr.heap.size wr w') => Val3.below hc1 hbw0 (HbW.out.trans ((et3 HBr.out h).mono HbW.out.size)))
      have HT1 := Lib.hid (fun w' (h : Below wr.heap.size wr w') => eat3 hat1 (HbW.out.trans ((et3 HBr.out h).mono HbW.out.size)))
      have hcw := wide_any 20 L[j] d1 wr (by decide) (HT1.out _ (Below.refl _ _))
      have h9 := HW1.out _ (Below.refl _ _)
      cases hwj : wideN 20 L[j] with
      | true =>
        rw [hwj] at hcw
        obtain ⟨k3, z3, a3, len3, cap3, rfl⟩ := at_lit hat1
        clear hc1 hat1 hv0 hbw0 hcap0 hbest hwj
        go_wp2_with (first
          | (refine wpList_load_val rfl _ rfl b0 (off0 + j * 3) _ rfl h9 ?_)
          | fail)
        refine hcw.mono ?_
        rintro e w5 ⟨rfl, hb5⟩
        have Hb5 := Lib.hid (et3 HBr.out hb5)
        clear hb5 hcw
        go_wp2_with fail
        go_ret
        exact ⟨rfl, HbW.out.trans (Hb5.out.mono HbW.out.size)⟩
      | false =>
        rw [hwj] at hcw
        have Hsl1 := Lib.hid (slim_of_wide 20 L[j] hwj)
        have Hmj := Lib.hid (Hs.out L[j] (List.getElem_mem hjL))
        rcases hbest.out with ⟨hj0, rfl⟩ | ⟨hj0, rfl, zb, hzb, hslb⟩
        · obtain ⟨k3, z3, a3, len3, cap3, rfl⟩ := at_lit hat1
          have HF : Hid (ebst P (j + 1 - 1) = j) := Lib.hid (by rw [hj0]; rfl)
          have HZ : Hid (∃ z, L[ebst P (j + 1 - 1)]? = some z ∧ slimV 20 z = true) := Lib.hid ⟨_, by rw [HF.out]; exact List.getElem?_eq_getElem hjL, Hsl1.out⟩
          clear hc1 hat1 hv0 hbw0 hcap0 hbest hwj hj0
          go_wp2_with (first
            | (refine wpList_load_val rfl _ rfl b0 (off0 + j * 3) _ rfl h9 ?_)
            | fail)
          refine hcw.mono ?_
          rintro e w5 ⟨rfl, hb5⟩
          have Hb5 := Lib.hid (et3 hB.out hb5)
          clear hb5 hcw h9
          go_upto_region 11 with fail
          refine wp_region_later (W0 := w5) (Below.refl _ _) (by kernel_rfl) (by as_aux_lemma => kernel_rfl) ?_
          go_big_quiet_step (exact rfl)
          go_big_quiet_step (exact rfl)
          go_big_quiet_step (exact rfl)
          go_big_quiet_skip
          go_big_quiet_skip
          go_big_quiet_skip
          go_big_quiet_skip
          go_big_quiet_skip
          go_big_quiet_skip
          go_big_quiet_skip
          go_big_quiet_skip
          go_big_quiet_skip
          go_big_quiet_skip
          go_big_quiet_skip
          go_big_quiet_skip
          go_big_quiet_step (exact rfl)
          refine wpQuiet_nil ?_
          intro w' hw'
          obtain ⟨L', rfl⟩ := hw'
          go_step
          go_step
          go_wp2_with fail
          go_roundw
          case rel => exact ⟨j + 1, j, by go_num, rfl, by omega, Lib.hid (.inr ⟨by omega, by rw [HF.out], HZ.out⟩), Lib.hid (et3 Hb5.out L'.ok)⟩
          case measure => simp [intOf]; omega
        · obtain ⟨jm, hjm⟩ : ∃ jm, j = jm + 1 := ⟨j - 1, by omega⟩
          have hjm1 : j - 1 = jm := by omega
          rw [hjm1] at hzb ⊢
          have hbst : ebst P (j + 1 - 1) = if elex (P.getD j []) (P.getD (ebst P jm) []) < 0 then j else ebst P jm := by rw [show j + 1 - 1 = jm + 1 from by omega, hjm]; rfl
          have hble := ebst_le P jm
          obtain ⟨bb, hbb⟩ : ∃ bb, bb = ebst P jm := ⟨_, rfl⟩
          rw [← hbb] at hbst hble hzb ⊢
          have hbj : bb < j := by omega
          have hbL : bb < L.length := by omega
          have hbn : bb < n := by omega
          obtain ⟨d2x, hc2, hat2⟩ := vals_get _ b0 L off0 hv0 bb hbL
          have HW2 := Lib.hid (fun w' (h : Below wr.heap.size wr w') => Val3.below hc2 hbw0 (HbW.out.trans ((et3 HBr.out h).mono HbW.out.size)))
          have HT2 := Lib.hid (fun w' (h : Below wr.heap.size wr w') => eat3 hat2 (HbW.out.trans ((et3 HBr.out h).mono HbW.out.size)))
          have Hmb := Lib.hid (Hs.out L[bb] (List.getElem_mem hbL))
          rw [HG.out j hjL, HG.out bb hbL] at hbst
          have HF := Lib.hid hbst
          have hzz : zb = L[bb] := by rw [List.getElem?_eq_getElem hbL] at hzb; exact (Option.some.inj hzb).symm
          subst hzz
          have HZj : Hid (∃ z, L[j]? = some z ∧ slimV 20 z = true) := Lib.hid ⟨_, List.getElem?_eq_getElem hjL, Hsl1.out⟩
          have HZb : Hid (∃ z, L[bb]? = some z ∧ slimV 20 z = true) := Lib.hid ⟨_, hzb, hslb⟩
          have Hv1 : Hid (∀ w', Below wr.heap.size wr w' → Calls Try.prog 16 #[.agg d1.toArray] w' fun e w2 => ∃ rs : List Value, e = .returned (.agg rs.toArray) ∧ Vl.at w2 L[j] rs ∧ Below w'.heap.size w' w2) := Lib.hid fun w' h => (lawVal_any 20 _ _ w' Hsl1.out (HT1.out _ h)).mono fun e w2 ⟨rs, e1, e2, e3⟩ => ⟨rs, e1, e2.ref, e3⟩
          have Hv2 : Hid (∀ w', Below wr.heap.size wr w' → Calls Try.prog 16 #[.agg d2x.toArray] w' fun e w2 => ∃ rs : List Value, e = .returned (.agg rs.toArray) ∧ Vl.at w2 L[bb] rs ∧ Below w'.heap.size w' w2) := Lib.hid fun w' h => (lawVal_any 20 _ _ w' hslb (HT2.out _ h)).mono fun e w2 ⟨rs, e1, e2, e3⟩ => ⟨rs, e1, e2.ref, e3⟩
          have HR : Hid (∀ (rs1 rs2 : List Value) (w' : World), Vl.at w' L[j] rs1 → Vl.at w' L[bb] rs2 → Calls Try.prog 15 #[.agg rs1.toArray, .agg rs2.toArray] w' fun e w2 => e = .returned (.int .i64 (elex L[j].put L[bb].put)) ∧ Below w'.heap.size w' w2) := Lib.hid fun rs1 rs2 w' h1 h2 => refEager_any _ _ _ _ w' h1 h2 Hmj.out Hmb.out
          have dbb : decide ((bb : Int) < 0) = false := by simp
          have dbn : decide ((bb : Int) < n) = true := by simp; omega
          generalize elex L[j].put L[bb].put = o2 at HR HF hbst
          generalize L[j] = pj at *
          generalize L[bb] = pb at *
          have hfirst := at_lit hat1
          obtain ⟨k3, z3, a3, len3, cap3, rfl⟩ := hfirst
          clear hc1 hat1 hv0 hbw0 hcap0 hbest hwj hjL hbb hbL hc2 hat2 hzb hslb hbj hbst hble hjm hjm1
          go_wp2_with (first
            | (refine wpList_load_val rfl _ rfl b0 (off0 + j * 3) _ rfl h9 ?_)
            | fail)
          refine hcw.mono ?_
          rintro e w5 ⟨rfl, hb5⟩
          have H5 := Lib.hid hb5
          have Hb5 := Lib.hid (et3 hB.out hb5)
          clear hb5 hcw h9
          go_upto_region 11 with fail
          obtain ⟨wd, hwd⟩ : ∃ wd, wd = w5.drew := ⟨_, rfl⟩
          have hKd : Below w5.heap.size w5 wd := by rw [hwd]; exact (Below.refl _ _).drew
          have hNE := HeldW.nonempty (S := fun w' => Below w5.heap.size w5 w') hKd
          refine wp_region_hold (fun w' => Below w5.heap.size w5 w') (.plain 0 (.plain 1 (.plain 2 (.plain 3 (.plain 4 (.plain 5 (.plain 6 (.plain 8 (.plain 9 (.plain 10 (.plain 11 (.sole 7 (.sole 12 (.sole 13 (.plain 14 (.plain 15 .done)))))))))))))))) (by rw [← hwd]; exact hKd) (by kernel_rfl) (by kernel_rfl) (fun c a d v w h => by cases d <;> exact h) ?_
          rw [← hwd]
          clear hwd
          repeat (first
              | (refine' hold_skip ?_ ?_ ?_
                 rotate_left 1
                 · simp only [List.getElem?_toArray, List.getElem?_cons_zero, List.getElem?_cons_succ]; exact rfl
                 · exact rfl
                 simp only [Act.put, List.setIfInBounds_toArray, List.set_cons_zero, List.set_cons_succ])
              | (refine' hold_want ?_ ?_ (fun J hJ => ?_)
                 rotate_left 1
                 · simp only [List.getElem?_toArray, List.getElem?_cons_zero, List.getElem?_cons_succ]; exact rfl
                 · exact rfl
                 first
                 | (refine quiet_load_val _ rfl b0 (off0 + j * 3) [.int .i64 k3, .int .u8 z3, .slice a3 len3 cap3] rfl (fun w' ⟨L1, hL1⟩ => hL1 ▸ HW1.out _ (et3 H5.out L1.ok)) ?_; refine hJ _ ?_; clear hJ J; try simp only [Act.put, List.setIfInBounds_toArray, List.set_cons_zero, List.set_cons_succ])
                 | (refine quiet_load_val _ rfl b0 (off0 + bb * 3) d2x rfl (fun w' ⟨L1, hL1⟩ => hL1 ▸ HW2.out _ (et3 H5.out L1.ok)) ?_; refine hJ _ ?_; clear hJ J; try simp only [Act.put, List.setIfInBounds_toArray, List.set_cons_zero, List.set_cons_succ])
                 | (refine quiet_extract _ _ rfl _ _ rfl rfl ?_; refine hJ _ ?_; clear hJ J; try simp only [Act.put, List.setIfInBounds_toArray, List.set_cons_zero, List.set_cons_succ])
                 | (go_big_quiet_op; refine hJ _ ?_; clear hJ J; try simp only [Act.put, List.setIfInBounds_toArray, List.set_cons_zero, List.set_cons_succ])))
          refine' hold_sole ?_ ?_ (fun J hJ => ?_)
          rotate_left 1
          · simp only [List.getElem?_toArray, List.getElem?_cons_zero, List.getElem?_cons_succ]; exact rfl
          · exact rfl
          go_simp
          refine (Hv1.out _ (et3 H5.out hKd)).mono ?_
          rintro e w21 ⟨rs21, rfl, hm21, hb21⟩
          have hK21 : Below w5.heap.size w5 w21 := et3 hKd hb21
          refine hJ _ _ hK21 ?_
          clear hJ J hb21
          try simp only [Act.put, List.setIfInBounds_toArray, List.set_cons_zero, List.set_cons_succ]
          refine' hold_sole ?_ ?_ (fun J hJ => ?_)
          rotate_left 1
          · simp only [List.getElem?_toArray, List.getElem?_cons_zero, List.getElem?_cons_succ]; exact rfl
          · exact rfl
          go_simp
          refine (Hv2.out _ (et3 H5.out hK21)).mono ?_
          rintro e w22 ⟨rs22, rfl, hm22, hb22⟩
          have hK22 : Below w5.heap.size w5 w22 := et3 hK21 hb22
          have hma_22 := eat3 hm21 hb22
          refine hJ _ _ hK22 ?_
          clear hJ J hb22
          try simp only [Act.put, List.setIfInBounds_toArray, List.set_cons_zero, List.set_cons_succ]
          refine' hold_sole ?_ ?_ (fun J hJ => ?_)
          rotate_left 1
          · simp only [List.getElem?_toArray, List.getElem?_cons_zero, List.getElem?_cons_succ]; exact rfl
          · exact rfl
          go_simp
          refine (HR.out _ _ _ hma_22 hm22).mono ?_
          rintro e w23 ⟨rfl, hb23⟩
          have hK23 : Below w5.heap.size w5 w23 := et3 hK22 hb23
          have hma_23 := eat3 hma_22 hb23
          have hmb_23 := eat3 hm22 hb23
          refine hJ _ _ hK23 ?_
          clear hJ J hb23
          try simp only [Act.put, List.setIfInBounds_toArray, List.set_cons_zero, List.set_cons_succ]
          repeat (first
              | (refine' hold_skip ?_ ?_ ?_
                 rotate_left 1
                 · simp only [List.getElem?_toArray, List.getElem?_cons_zero, List.getElem?_cons_succ]; exact rfl
                 · exact rfl
                 simp only [Act.put, List.setIfInBounds_toArray, List.set_cons_zero, List.set_cons_succ])
              | (refine' hold_want ?_ ?_ (fun J hJ => ?_)
                 rotate_left 1
                 · simp only [List.getElem?_toArray, List.getElem?_cons_zero, List.getElem?_cons_succ]; exact rfl
                 · exact rfl
                 first
                 | (refine quiet_load_val _ rfl b0 (off0 + j * 3) [.int .i64 k3, .int .u8 z3, .slice a3 len3 cap3] rfl (fun w' ⟨L1, hL1⟩ => hL1 ▸ HW1.out _ (et3 H5.out L1.ok)) ?_; refine hJ _ ?_; clear hJ J; try simp only [Act.put, List.setIfInBounds_toArray, List.set_cons_zero, List.set_cons_succ])
                 | (refine quiet_load_val _ rfl b0 (off0 + bb * 3) d2x rfl (fun w' ⟨L1, hL1⟩ => hL1 ▸ HW2.out _ (et3 H5.out L1.ok)) ?_; refine hJ _ ?_; clear hJ J; try simp only [Act.put, List.setIfInBounds_toArray, List.set_cons_zero, List.set_cons_succ])
                 | (refine quiet_extract _ _ rfl _ _ rfl rfl ?_; refine hJ _ ?_; clear hJ J; try simp only [Act.put, List.setIfInBounds_toArray, List.set_cons_zero, List.set_cons_succ])
                 | (go_big_quiet_op; refine hJ _ ?_; clear hJ J; try simp only [Act.put, List.setIfInBounds_toArray, List.set_cons_zero, List.set_cons_succ])))
          refine hold_done ?_
          have HE5 := Lib.hid (et3 Hb5.out hK23)
          by_cases ho : o2 < 0
          · have hdo : decide (o2 < 0) = true := by simp; omega
            have Ho := Lib.hid ho
            rw [hdo]
            clear ho hdo
            go_wp2_with fail
            go_roundw
            case rel =>
              have h := HF.out
              rw [if_pos Ho.out] at h
              refine ⟨j + 1, j, by go_num, rfl, by omega, Lib.hid (.inr ⟨by omega, by rw [h], ?_⟩), HE5⟩
              rw [h]; exact HZj.out
            case measure => simp [intOf]; omega
          · have hdo : decide (o2 < 0) = false := by simp; omega
            have Ho := Lib.hid ho
            rw [hdo]
            clear ho hdo
            go_wp2_with fail
            go_roundw
            case rel =>
              have h := HF.out
              rw [if_neg Ho.out] at h
              refine ⟨j + 1, bb, by go_num, rfl, by omega, Lib.hid (.inr ⟨by omega, by rw [h], ?_⟩), HE5⟩
              rw [h]; exact HZb.out
            case measure => simp [intOf]; omega
    · have ejn : j = n := by omega
      have hdj : decide ((j : Int) < n) = false := by rw [ejn]; simp
      have hres : ∃ (i : Nat) (ok : Bool), (∀ w', Below W.heap.size W w' → Calls Try.prog 9 #[.slice a0 n cap0] w' fun e w2 => e = .returned (.tuple #[.int .i64 i, .bool ok]) ∧ Below w'.heap.size w' w2) ∧ decide ((0 : Int) ≤ bi) = ok ∧ (ok = true → bi = i) := by
        rcases hbest.out with ⟨h0, h1⟩ | ⟨h0, h1, _⟩
        · have hn0 : n = 0 := by omega
          refine ⟨0, false, fun w' _ => ?_, by rw [h1]; rfl, fun h => by cases h⟩
          rw [hn0]
          exact (ebest_empty w' a0 cap0).mono fun e w2 hh => ⟨by rw [hh.1]; rfl, hh.2⟩
        · rw [ejn] at h1
          refine ⟨ebst P (n - 1), true, fun w' h => ?_, by rw [h1]; simp, fun _ => h1⟩
          have hc := ebest_some (by have := HN.out; omega) Hs.out (HL.out _ h)
          rw [← HP.out, ← HN.out] at hc
          exact hc
      obtain ⟨i, ok, hcall, hok, hio⟩ := hres
      have Hcall := Lib.hid hcall
      have Hok := Lib.hid (And.intro hok hio)
      clear hbest hB hcall hok hio
      go_upto_region 13 with fail
      obtain ⟨wd, hwd⟩ : ∃ wd, wd = wr.drew := ⟨_, rfl⟩
      have hKd : Below wr.heap.size wr wd := by rw [hwd]; exact (Below.refl _ _).drew
      have hNE := HeldW.nonempty (S := fun w' => Below wr.heap.size wr w') hKd
      refine wp_region_hold (fun w' => Below wr.heap.size wr w') (.plain 0 (.plain 3 (.sole 1 (.sole 2 (.sole 4 (.sole 5 (.plain 6 (.plain 7 .done)))))))) (by rw [← hwd]; exact hKd) (by kernel_rfl) (by kernel_rfl) (fun c a d v w h => by cases d <;> exact h) ?_
      rw [← hwd]
      clear hwd
      repeat (first
          | (refine' hold_skip ?_ ?_ ?_
             rotate_left 1
             · simp only [List.getElem?_toArray, List.getElem?_cons_zero, List.getElem?_cons_succ]; exact rfl
             · exact rfl
             simp only [Act.put, List.setIfInBounds_toArray, List.set_cons_zero, List.set_cons_succ])
          | (refine' hold_want ?_ ?_ (fun J hJ => ?_)
             rotate_left 1
             · simp only [List.getElem?_toArray, List.getElem?_cons_zero, List.getElem?_cons_succ]; exact rfl
             · exact rfl
             first
             | (refine quiet_load_val _ rfl w.heap.size 0 [.int .i64 k1, .int .u8 z1, .slice a1 len1 cap1] rfl (fun w' ⟨L1, hL1⟩ => hL1 ▸ HXx.out _ (et3 HBr.out L1.ok)) ?_; refine hJ _ ?_; clear hJ J; try simp only [Act.put, List.setIfInBounds_toArray, List.set_cons_zero, List.set_cons_succ])
             | (refine quiet_load_val _ rfl (w.heap.size + 1) 0 [.int .i64 k2, .int .u8 z2, .slice a2 len2 cap2] rfl (fun w' ⟨L1, hL1⟩ => hL1 ▸ HXy.out _ (et3 HBr.out L1.ok)) ?_; refine hJ _ ?_; clear hJ J; try simp only [Act.put, List.setIfInBounds_toArray, List.set_cons_zero, List.set_cons_succ])
             | (refine quiet_extract _ _ rfl _ _ rfl rfl ?_; refine hJ _ ?_; clear hJ J; try simp only [Act.put, List.setIfInBounds_toArray, List.set_cons_zero, List.set_cons_succ])
             | (go_big_quiet_op; refine hJ _ ?_; clear hJ J; try simp only [Act.put, List.setIfInBounds_toArray, List.set_cons_zero, List.set_cons_succ])))
      refine' hold_sole ?_ ?_ (fun J hJ => ?_)
      rotate_left 1
      · simp only [List.getElem?_toArray, List.getElem?_cons_zero, List.getElem?_cons_succ]; exact rfl
      · exact rfl
      go_simp
      refine (Hvx.out _ (et3 HBr.out hKd)).mono ?_
      rintro e w24 ⟨rs24, rfl, hm24, hb24⟩
      have hK24 : Below wr.heap.size wr w24 := et3 hKd hb24
      refine hJ _ _ hK24 ?_
      clear hJ J hb24
      try simp only [Act.put, List.setIfInBounds_toArray, List.set_cons_zero, List.set_cons_succ]
      refine' hold_sole ?_ ?_ (fun J hJ => ?_)
      rotate_left 1
      · simp only [List.getElem?_toArray, List.getElem?_cons_zero, List.getElem?_cons_succ]; exact rfl
      · exact rfl
      go_simp
      refine (HBx.out _ _ hm24).mono ?_
      rintro e w25 ⟨rfl, hb25⟩
      have hK25 : Below wr.heap.size wr w25 := et3 hK24 hb25
      have hma_25 := eat3 hm24 hb25
      refine hJ _ _ hK25 ?_
      clear hJ J hb25
      try simp only [Act.put, List.setIfInBounds_toArray, List.set_cons_zero, List.set_cons_succ]
      refine' hold_sole ?_ ?_ (fun J hJ => ?_)
      rotate_left 1
      · simp only [List.getElem?_toArray, List.getElem?_cons_zero, List.getElem?_cons_succ]; exact rfl
      · exact rfl
      go_simp
      refine (Hvy.out _ (et3 HBr.out hK25)).mono ?_
      rintro e w26 ⟨rs26, rfl, hm26, hb26⟩
      have hK26 : Below wr.heap.size wr w26 := et3 hK25 hb26
      have hma_26 := eat3 hma_25 hb26
      refine hJ _ _ hK26 ?_
      clear hJ J hb26
      try simp only [Act.put, List.setIfInBounds_toArray, List.set_cons_zero, List.set_cons_succ]
      refine' hold_sole ?_ ?_ (fun J hJ => ?_)
      rotate_left 1
      · simp only [List.getElem?_toArray, List.getElem?_cons_zero, List.getElem?_cons_succ]; exact rfl
      · exact rfl
      go_simp
      refine (HBy.out _ _ hm26).mono ?_
      rintro e w27 ⟨rfl, hb27⟩
      have hK27 : Below wr.heap.size wr w27 := et3 hK26 hb27
      have hma_27 := eat3 hma_26 hb27
      have hmb_27 := eat3 hm26 hb27
      refine hJ _ _ hK27 ?_
      clear hJ J hb27
      try simp only [Act.put, List.setIfInBounds_toArray, List.set_cons_zero, List.set_cons_succ]
      repeat (first
          | (refine' hold_skip ?_ ?_ ?_
             rotate_left 1
             · simp only [List.getElem?_toArray, List.getElem?_cons_zero, List.getElem?_cons_succ]; exact rfl
             · exact rfl
             simp only [Act.put, List.setIfInBounds_toArray, List.set_cons_zero, List.set_cons_succ])
          | (refine' hold_want ?_ ?_ (fun J hJ => ?_)
             rotate_left 1
             · simp only [List.getElem?_toArray, List.getElem?_cons_zero, List.getElem?_cons_succ]; exact rfl
             · exact rfl
             first
             | (refine quiet_load_val _ rfl w.heap.size 0 [.int .i64 k1, .int .u8 z1, .slice a1 len1 cap1] rfl (fun w' ⟨L1, hL1⟩ => hL1 ▸ HXx.out _ (et3 HBr.out L1.ok)) ?_; refine hJ _ ?_; clear hJ J; try simp only [Act.put, List.setIfInBounds_toArray, List.set_cons_zero, List.set_cons_succ])
             | (refine quiet_load_val _ rfl (w.heap.size + 1) 0 [.int .i64 k2, .int .u8 z2, .slice a2 len2 cap2] rfl (fun w' ⟨L1, hL1⟩ => hL1 ▸ HXy.out _ (et3 HBr.out L1.ok)) ?_; refine hJ _ ?_; clear hJ J; try simp only [Act.put, List.setIfInBounds_toArray, List.set_cons_zero, List.set_cons_succ])
             | (refine quiet_extract _ _ rfl _ _ rfl rfl ?_; refine hJ _ ?_; clear hJ J; try simp only [Act.put, List.setIfInBounds_toArray, List.set_cons_zero, List.set_cons_succ])
             | (go_big_quiet_op; refine hJ _ ?_; clear hJ J; try simp only [Act.put, List.setIfInBounds_toArray, List.set_cons_zero, List.set_cons_succ])))
      refine hold_done ?_
      have Hb7 := Lib.hid (et3 HBr.out hK27)
      obtain ⟨w7, rfl⟩ : ∃ w7, w7 = w27 := ⟨_, rfl⟩
      generalize putS x = tx at *
      generalize putS y = ty at *
      obtain ⟨ep, hep⟩ : ∃ ep, ep = eapt (nats tx) (nats ty) := ⟨_, rfl⟩
      have Hep := Lib.hid hep
      have Hle : Hid (ep ≤ tx.size ∧ ep ≤ ty.size) := Lib.hid (by have := eapt_le (nats tx) (nats ty); have h := HLN.out; rw [h.1, h.2, ← hep] at this; exact this)
      clear hep
      go_wp2_with fail
      go_loopw [11] (fun i wq => ∃ q : Nat, i = .int .i64 q ∧ q ≤ ep ∧ Hid (Below w7.heap.size w7 wq)) (fun i _ => ep - (intOf i).toNat)
      case atStart => exact ⟨0, rfl, Nat.zero_le _, Lib.hid (Below.refl _ _)⟩
      case round =>
        obtain ⟨q, rfl, hq, hBq⟩ := hrel
        have HQ := Lib.hid hq
        have Hbq := Lib.hid (et3 Hb7.out hBq.out)
        have hqb : (q : Int) ≤ 1152921504606846976 := by have := Hle.out; have := Hbb.out; omega
        go_upto_region 15 with fail
        go_cut [79] from 61 to 78 (fun v wx => v = .bool (decide (q < ep)) ∧ Below wr.heap.size wr wx)
        case first =>
          by_cases hqe : q < ep
          · obtain ⟨c, hgx, hgy⟩ := eapt_more q (nats tx) (nats ty) (by rw [← Hep.out]; exact hqe)
            have hgx := Lib.hid hgx
            have hgy := Lib.hid hgy
            have e1 : decide ((q : Int) < tx.size) = true := by have := Hle.out; simp; omega
            have e1n : decide (q < tx.size) = true := by have := Hle.out; simp; omega
            have e2 : decide ((q : Int) < ty.size) = true := by have := Hle.out; simp; omega
            have e2n : decide (q < ty.size) = true := by have := Hle.out; simp; omega
            have Hdq : Hid (decide (q < ep) = true) := Lib.hid (decide_eq_true hqe)
            clear hqe hq
            refine wp_region_later (W0 := wr) (Below.refl _ _) (by kernel_rfl) (by as_aux_lemma => kernel_rfl) ?_
            go_big_quiet_step (exact rfl)
            go_big_quiet_step (exact rfl)
            go_big_quiet_step (exact rfl)
            go_big_quiet_step (exact rfl)
            go_big_quiet_step (exact rfl)
            go_big_quiet_step (exact rfl)
            go_big_quiet_step (exact rfl)
            go_big_quiet_step (exact rfl)
            go_big_quiet_step (exact rfl)
            go_big_quiet_step (exact rfl)
            go_big_quiet_step (exact rfl)
            go_big_quiet_step (exact rfl)
            go_big_quiet_step (exact rfl)
            (go_big_quiet_want; refine quiet_index_str _ _ rfl tx q c rfl rfl hgx.out ?_; go_big_quiet_on; try simp only [Act.put, List.setIfInBounds_toArray, List.set_cons_zero, List.set_cons_succ])
            go_big_quiet_step (exact rfl)
            go_big_quiet_step (exact rfl)
            (go_big_quiet_want; refine quiet_index_str _ _ rfl ty q c rfl rfl hgy.out ?_; go_big_quiet_on; try simp only [Act.put, List.setIfInBounds_toArray, List.set_cons_zero, List.set_cons_succ])
            go_big_quiet_step (exact rfl)
            go_big_quiet_step (exact rfl)
            refine wpQuiet_nil ?_
            intro w' hw'
            obtain ⟨L', rfl⟩ := hw'
            go_step
            go_step
            go_meet
            exact ⟨(congrArg Value.bool Hdq.out).symm, L'.ok⟩
          · have hqq : q = ep := by omega
            have Hdq : Hid (decide (q < ep) = false) := Lib.hid (decide_eq_false hqe)
            by_cases h1 : q < tx.size
            · have e1 : decide ((q : Int) < tx.size) = true := by simp; omega
              have e1n : decide (q < tx.size) = true := by simp; omega
              by_cases h2 : q < ty.size
              · have e2 : decide ((q : Int) < ty.size) = true := by simp; omega
                have e2n : decide (q < ty.size) = true := by simp; omega
                obtain ⟨c, d, hgx, hgy, hcd⟩ := eapt_stop (nats tx) (nats ty) (by rw [HLN.out.1, ← Hep.out, ← hqq]; exact h1) (by rw [HLN.out.2, ← Hep.out, ← hqq]; exact h2)
                rw [← Hep.out, ← hqq] at hgx hgy
                have hgx := Lib.hid hgx
                have hgy := Lib.hid hgy
                have e3 : ((c : Int) == (d : Int)) = false := by simp; omega
                have e4 : (c == d) = false := by simp [hcd]
                clear hqe hq hqq hcd h1 h2
                refine wp_region_later (W0 := wr) (Below.refl _ _) (by kernel_rfl) (by as_aux_lemma => kernel_rfl) ?_
                go_big_quiet_step (exact rfl)
                go_big_quiet_step (exact rfl)
                go_big_quiet_step (exact rfl)
                go_big_quiet_step (exact rfl)
                go_big_quiet_step (exact rfl)
                go_big_quiet_step (exact rfl)
                go_big_quiet_step (exact rfl)
                go_big_quiet_step (exact rfl)
                go_big_quiet_step (exact rfl)
                go_big_quiet_step (exact rfl)
                go_big_quiet_step (exact rfl)
                go_big_quiet_step (exact rfl)
                go_big_quiet_step (exact rfl)
                (go_big_quiet_want; refine quiet_index_str _ _ rfl tx q c rfl rfl hgx.out ?_; go_big_quiet_on; try simp only [Act.put, List.setIfInBounds_toArray, List.set_cons_zero, List.set_cons_succ])
                go_big_quiet_step (exact rfl)
                go_big_quiet_step (exact rfl)
                (go_big_quiet_want; refine quiet_index_str _ _ rfl ty q d rfl rfl hgy.out ?_; go_big_quiet_on; try simp only [Act.put, List.setIfInBounds_toArray, List.set_cons_zero, List.set_cons_succ])
                go_big_quiet_step (exact rfl)
                go_big_quiet_step (exact rfl)
                refine wpQuiet_nil ?_
                intro w' hw'
                obtain ⟨L', rfl⟩ := hw'
                go_step
                go_step
                go_meet
                exact ⟨(congrArg Value.bool Hdq.out).symm, L'.ok⟩
              · have e2 : decide ((q : Int) < ty.size) = false := by simp; omega
                have e2n : decide (q < ty.size) = false := by simp; omega
                clear hqe hq hqq h1 h2
                refine wp_region_later (W0 := wr) (Below.refl _ _) (by kernel_rfl) (by as_aux_lemma => kernel_rfl) ?_
                go_big_quiet_step (exact rfl)
                go_big_quiet_step (exact rfl)
                go_big_quiet_step (exact rfl)
                go_big_quiet_step (exact rfl)
                go_big_quiet_step (exact rfl)
                go_big_quiet_step (exact rfl)
                go_big_quiet_step (exact rfl)
                go_big_quiet_step (exact rfl)
                go_big_quiet_step (exact rfl)
                go_big_quiet_step (exact rfl)
                go_big_quiet_step (exact rfl)
                go_big_quiet_skip
                go_big_quiet_skip
                go_big_quiet_skip
                go_big_quiet_skip
                go_big_quiet_skip
                go_big_quiet_skip
                go_big_quiet_skip
                go_big_quiet_step (exact rfl)
                refine wpQuiet_nil ?_
                intro w' hw'
                obtain ⟨L', rfl⟩ := hw'
                go_step
                go_step
                go_meet
                exact ⟨(congrArg Value.bool Hdq.out).symm, L'.ok⟩
            · have e1 : decide ((q : Int) < tx.size) = false := by simp; omega
              have e1n : decide (q < tx.size) = false := by simp; omega
              clear hqe hq hqq h1
              refine wp_region_later (W0 := wr) (Below.refl _ _) (by kernel_rfl) (by as_aux_lemma => kernel_rfl) ?_
              go_big_quiet_step (exact rfl)
              go_big_quiet_step (exact rfl)
              go_big_quiet_step (exact rfl)
              go_big_quiet_step (exact rfl)
              go_big_quiet_step (exact rfl)
              go_big_quiet_skip
              go_big_quiet_skip
              go_big_quiet_skip
              go_big_quiet_skip
              go_big_quiet_step (exact rfl)
              go_big_quiet_step (exact rfl)
              go_big_quiet_skip
              go_big_quiet_skip
              go_big_quiet_skip
              go_big_quiet_skip
              go_big_quiet_skip
              go_big_quiet_skip
              go_big_quiet_skip
              go_big_quiet_step (exact rfl)
              refine wpQuiet_nil ?_
              intro w' hw'
              obtain ⟨L', rfl⟩ := hw'
              go_step
              go_step
              go_meet
              exact ⟨(congrArg Value.bool Hdq.out).symm, L'.ok⟩
        case rest =>
          obtain ⟨rfl, hBc⟩ := hcut
          obtain ⟨w8, rfl⟩ : ∃ w8, w8 = wc := ⟨_, rfl⟩
          have H8 := Lib.hid (et3 hBq.out hBc)
          have Hb8 := Lib.hid (et3 Hb7.out H8.out)
          clear hBc
          by_cases hqe : q < ep
          · have e1 : decide (q < ep) = true := decide_eq_true hqe
            rw [e1]
            clear hq
            go_wp2_with fail
            go_roundw
            case rel => exact ⟨q + 1, by go_num, by omega, H8⟩
            case measure => simp [intOf]; omega
          · have hqq : q = ep := by omega
            rw [decide_eq_false hqe]
            by_cases heq : nats tx = nats ty
            · have e1 : (tx.toList == ty.toList) = true := by rw [HE.out, decide_eq_true heq]
              have HA0 : Hid (A = -1) := Lib.hid (by rw [HAP.out]; exact apartL_iff.2 heq)
              clear hqe hqq heq hq
              go_wp2_with fail
              refine (Hcall.out _ Hb8.out).mono ?_
              rintro e w9 ⟨rfl, hb9⟩
              have Hb9 := Lib.hid (et3 Hb8.out hb9)
              clear hb9
              go_upto_region 20 with fail
              rw [HA0.out] at Hap
              cases ok
              · have d4 : decide ((0 : Int) ≤ bi) = false := Hok.out.1
                have d5 : decide (bi ≥ 0) = false := d4
                obtain ⟨wd, hwd⟩ : ∃ wd, wd = w9.drew := ⟨_, rfl⟩
                have hKd : Below w9.heap.size w9 wd := by rw [hwd]; exact (Below.refl _ _).drew
                have hNE := HeldW.nonempty (S := fun w' => Below w9.heap.size w9 w') hKd
                refine wp_region_hold (fun w' => Below w9.heap.size w9 w') (.plain 0 (.plain 1 (.plain 3 (.plain 5 (.sole 2 (.sole 4 (.sole 6 (.sole 7 (.plain 8 (.plain 9 (.plain 10 (.plain 11 (.plain 13 (.sole 12 (.plain 14 (.plain 15 (.plain 16 (.plain 17 (.plain 18 (.plain 19 (.plain 20 (.plain 21 (.plain 22 (.plain 23 (.plain 24 (.plain 25 (.plain 26 (.plain 27 (.plain 28 (.plain 29 (.plain 30 (.plain 31 .done)))))))))))))))))))))))))))))))) (by rw [← hwd]; exact hKd) (by kernel_rfl) (by kernel_rfl) (fun c a d v w h => by cases d <;> exact h) ?_
                rw [← hwd]
                clear hwd
                repeat (first
                    | (refine' hold_skip ?_ ?_ ?_
                       rotate_left 1
                       · simp only [List.getElem?_toArray, List.getElem?_cons_zero, List.getElem?_cons_succ]; exact rfl
                       · exact rfl
                       simp only [Act.put, List.setIfInBounds_toArray, List.set_cons_zero, List.set_cons_succ])
                    | (refine' hold_want ?_ ?_ (fun J hJ => ?_)
                       rotate_left 1
                       · simp only [List.getElem?_toArray, List.getElem?_cons_zero, List.getElem?_cons_succ]; exact rfl
                       · exact rfl
                       first
                       | (refine quiet_load_val _ rfl w.heap.size 0 [.int .i64 k1, .int .u8 z1, .slice a1 len1 cap1] rfl (fun w' ⟨L1, hL1⟩ => hL1 ▸ HXx.out _ (et3 Hb9.out L1.ok)) ?_; refine hJ _ ?_; clear hJ J; try simp only [Act.put, List.setIfInBounds_toArray, List.set_cons_zero, List.set_cons_succ])
                       | (refine quiet_load_val _ rfl (w.heap.size + 1) 0 [.int .i64 k2, .int .u8 z2, .slice a2 len2 cap2] rfl (fun w' ⟨L1, hL1⟩ => hL1 ▸ HXy.out _ (et3 Hb9.out L1.ok)) ?_; refine hJ _ ?_; clear hJ J; try simp only [Act.put, List.setIfInBounds_toArray, List.set_cons_zero, List.set_cons_succ])
                       | (refine quiet_extract _ _ rfl _ _ rfl rfl ?_; refine hJ _ ?_; clear hJ J; try simp only [Act.put, List.setIfInBounds_toArray, List.set_cons_zero, List.set_cons_succ])
                       | (go_big_quiet_op; refine hJ _ ?_; clear hJ J; try simp only [Act.put, List.setIfInBounds_toArray, List.set_cons_zero, List.set_cons_succ])))
                refine' hold_sole ?_ ?_ (fun J hJ => ?_)
                rotate_left 1
                · simp only [List.getElem?_toArray, List.getElem?_cons_zero, List.getElem?_cons_succ]; exact rfl
                · exact rfl
                go_simp
                refine (Hc.out _ (et3 Hb9.out hKd)).mono ?_
                rintro e w28 ⟨rfl, hb28⟩
                have hK28 : Below w9.heap.size w9 w28 := et3 hKd hb28
                refine hJ _ _ hK28 ?_
                clear hJ J hb28
                try simp only [Act.put, List.setIfInBounds_toArray, List.set_cons_zero, List.set_cons_succ]
                refine' hold_sole ?_ ?_ (fun J hJ => ?_)
                rotate_left 1
                · simp only [List.getElem?_toArray, List.getElem?_cons_zero, List.getElem?_cons_succ]; exact rfl
                · exact rfl
                go_simp
                refine (Hvx.out _ (et3 Hb9.out hK28)).mono ?_
                rintro e w29 ⟨rs29, rfl, hm29, hb29⟩
                have hK29 : Below w9.heap.size w9 w29 := et3 hK28 hb29
                refine hJ _ _ hK29 ?_
                clear hJ J hb29
                try simp only [Act.put, List.setIfInBounds_toArray, List.set_cons_zero, List.set_cons_succ]
                refine' hold_sole ?_ ?_ (fun J hJ => ?_)
                rotate_left 1
                · simp only [List.getElem?_toArray, List.getElem?_cons_zero, List.getElem?_cons_succ]; exact rfl
                · exact rfl
                go_simp
                refine (Hvy.out _ (et3 Hb9.out hK29)).mono ?_
                rintro e w30 ⟨rs30, rfl, hm30, hb30⟩
                have hK30 : Below w9.heap.size w9 w30 := et3 hK29 hb30
                have hma_30 := eat3 hm29 hb30
                refine hJ _ _ hK30 ?_
                clear hJ J hb30
                try simp only [Act.put, List.setIfInBounds_toArray, List.set_cons_zero, List.set_cons_succ]
                refine' hold_sole ?_ ?_ (fun J hJ => ?_)
                rotate_left 1
                · simp only [List.getElem?_toArray, List.getElem?_cons_zero, List.getElem?_cons_succ]; exact rfl
                · exact rfl
                go_simp
                refine (HRxy.out _ _ _ hma_30 hm30).mono ?_
                rintro e w31 ⟨rfl, hb31⟩
                have hK31 : Below w9.heap.size w9 w31 := et3 hK30 hb31
                have hma_31 := eat3 hma_30 hb31
                have hmb_31 := eat3 hm30 hb31
                refine hJ _ _ hK31 ?_
                clear hJ J hb31
                try simp only [Act.put, List.setIfInBounds_toArray, List.set_cons_zero, List.set_cons_succ]
                repeat (first
                    | (refine' hold_skip ?_ ?_ ?_
                       rotate_left 1
                       · simp only [List.getElem?_toArray, List.getElem?_cons_zero, List.getElem?_cons_succ]; exact rfl
                       · exact rfl
                       simp only [Act.put, List.setIfInBounds_toArray, List.set_cons_zero, List.set_cons_succ])
                    | (refine' hold_want ?_ ?_ (fun J hJ => ?_)
                       rotate_left 1
                       · simp only [List.getElem?_toArray, List.getElem?_cons_zero, List.getElem?_cons_succ]; exact rfl
                       · exact rfl
                       first
                       | (refine quiet_load_val _ rfl w.heap.size 0 [.int .i64 k1, .int .u8 z1, .slice a1 len1 cap1] rfl (fun w' ⟨L1, hL1⟩ => hL1 ▸ HXx.out _ (et3 Hb9.out L1.ok)) ?_; refine hJ _ ?_; clear hJ J; try simp only [Act.put, List.setIfInBounds_toArray, List.set_cons_zero, List.set_cons_succ])
                       | (refine quiet_load_val _ rfl (w.heap.size + 1) 0 [.int .i64 k2, .int .u8 z2, .slice a2 len2 cap2] rfl (fun w' ⟨L1, hL1⟩ => hL1 ▸ HXy.out _ (et3 Hb9.out L1.ok)) ?_; refine hJ _ ?_; clear hJ J; try simp only [Act.put, List.setIfInBounds_toArray, List.set_cons_zero, List.set_cons_succ])
                       | (refine quiet_extract _ _ rfl _ _ rfl rfl ?_; refine hJ _ ?_; clear hJ J; try simp only [Act.put, List.setIfInBounds_toArray, List.set_cons_zero, List.set_cons_succ])
                       | (go_big_quiet_op; refine hJ _ ?_; clear hJ J; try simp only [Act.put, List.setIfInBounds_toArray, List.set_cons_zero, List.set_cons_succ])))
                refine' hold_sole ?_ ?_ (fun J hJ => ?_)
                rotate_left 1
                · simp only [List.getElem?_toArray, List.getElem?_cons_zero, List.getElem?_cons_succ]; exact rfl
                · exact rfl
                go_simp
                refine (Hap.out _ (et3 Hb9.out hK31)).mono ?_
                rintro e w32 ⟨rfl, hb32⟩
                have hK32 : Below w9.heap.size w9 w32 := et3 hK31 hb32
                have hma_32 := eat3 hma_31 hb32
                have hmb_32 := eat3 hmb_31 hb32
                refine hJ _ _ hK32 ?_
                clear hJ J hb32
                try simp only [Act.put, List.setIfInBounds_toArray, List.set_cons_zero, List.set_cons_succ]
                repeat (first
                    | (refine' hold_skip ?_ ?_ ?_
                       rotate_left 1
                       · simp only [List.getElem?_toArray, List.getElem?_cons_zero, List.getElem?_cons_succ]; exact rfl
                       · exact rfl
                       simp only [Act.put, List.setIfInBounds_toArray, List.set_cons_zero, List.set_cons_succ])
                    | (refine' hold_want ?_ ?_ (fun J hJ => ?_)
                       rotate_left 1
                       · simp only [List.getElem?_toArray, List.getElem?_cons_zero, List.getElem?_cons_succ]; exact rfl
                       · exact rfl
                       first
                       | (refine quiet_load_val _ rfl w.heap.size 0 [.int .i64 k1, .int .u8 z1, .slice a1 len1 cap1] rfl (fun w' ⟨L1, hL1⟩ => hL1 ▸ HXx.out _ (et3 Hb9.out L1.ok)) ?_; refine hJ _ ?_; clear hJ J; try simp only [Act.put, List.setIfInBounds_toArray, List.set_cons_zero, List.set_cons_succ])
                       | (refine quiet_load_val _ rfl (w.heap.size + 1) 0 [.int .i64 k2, .int .u8 z2, .slice a2 len2 cap2] rfl (fun w' ⟨L1, hL1⟩ => hL1 ▸ HXy.out _ (et3 Hb9.out L1.ok)) ?_; refine hJ _ ?_; clear hJ J; try simp only [Act.put, List.setIfInBounds_toArray, List.set_cons_zero, List.set_cons_succ])
                       | (refine quiet_extract _ _ rfl _ _ rfl rfl ?_; refine hJ _ ?_; clear hJ J; try simp only [Act.put, List.setIfInBounds_toArray, List.set_cons_zero, List.set_cons_succ])
                       | (go_big_quiet_op; refine hJ _ ?_; clear hJ J; try simp only [Act.put, List.setIfInBounds_toArray, List.set_cons_zero, List.set_cons_succ])))
                refine hold_done ?_
                have HE9 := Lib.hid (et3 Hb9.out hK32)
                go_wp2_with fail
                go_ret
                exact ⟨rfl, HbW.out.trans (HE9.out.mono HbW.out.size)⟩
              · have d4 : decide ((0 : Int) ≤ bi) = true := Hok.out.1
                obtain rfl : bi = (i : Int) := Hok.out.2 rfl
                have d5 : decide ((i : Int) ≥ 0) = true := d4
                obtain ⟨wd, hwd⟩ : ∃ wd, wd = w9.drew := ⟨_, rfl⟩
                have hKd : Below w9.heap.size w9 wd := by rw [hwd]; exact (Below.refl _ _).drew
                have hNE := HeldW.nonempty (S := fun w' => Below w9.heap.size w9 w') hKd
                refine wp_region_hold (fun w' => Below w9.heap.size w9 w') (.plain 0 (.plain 1 (.plain 3 (.plain 5 (.sole 2 (.sole 4 (.sole 6 (.sole 7 (.plain 8 (.plain 9 (.plain 10 (.plain 11 (.plain 13 (.sole 12 (.plain 14 (.plain 15 (.plain 16 (.plain 17 (.plain 18 (.plain 19 (.plain 20 (.plain 21 (.plain 22 (.plain 23 (.plain 24 (.plain 25 (.plain 26 (.plain 27 (.plain 28 (.plain 29 (.plain 30 (.plain 31 .done)))))))))))))))))))))))))))))))) (by rw [← hwd]; exact hKd) (by kernel_rfl) (by kernel_rfl) (fun c a d v w h => by cases d <;> exact h) ?_
                rw [← hwd]
                clear hwd
                repeat (first
                    | (refine' hold_skip ?_ ?_ ?_
                       rotate_left 1
                       · simp only [List.getElem?_toArray, List.getElem?_cons_zero, List.getElem?_cons_succ]; exact rfl
                       · exact rfl
                       simp only [Act.put, List.setIfInBounds_toArray, List.set_cons_zero, List.set_cons_succ])
                    | (refine' hold_want ?_ ?_ (fun J hJ => ?_)
                       rotate_left 1
                       · simp only [List.getElem?_toArray, List.getElem?_cons_zero, List.getElem?_cons_succ]; exact rfl
                       · exact rfl
                       first
                       | (refine quiet_load_val _ rfl w.heap.size 0 [.int .i64 k1, .int .u8 z1, .slice a1 len1 cap1] rfl (fun w' ⟨L1, hL1⟩ => hL1 ▸ HXx.out _ (et3 Hb9.out L1.ok)) ?_; refine hJ _ ?_; clear hJ J; try simp only [Act.put, List.setIfInBounds_toArray, List.set_cons_zero, List.set_cons_succ])
                       | (refine quiet_load_val _ rfl (w.heap.size + 1) 0 [.int .i64 k2, .int .u8 z2, .slice a2 len2 cap2] rfl (fun w' ⟨L1, hL1⟩ => hL1 ▸ HXy.out _ (et3 Hb9.out L1.ok)) ?_; refine hJ _ ?_; clear hJ J; try simp only [Act.put, List.setIfInBounds_toArray, List.set_cons_zero, List.set_cons_succ])
                       | (refine quiet_extract _ _ rfl _ _ rfl rfl ?_; refine hJ _ ?_; clear hJ J; try simp only [Act.put, List.setIfInBounds_toArray, List.set_cons_zero, List.set_cons_succ])
                       | (go_big_quiet_op; refine hJ _ ?_; clear hJ J; try simp only [Act.put, List.setIfInBounds_toArray, List.set_cons_zero, List.set_cons_succ])))
                refine' hold_sole ?_ ?_ (fun J hJ => ?_)
                rotate_left 1
                · simp only [List.getElem?_toArray, List.getElem?_cons_zero, List.getElem?_cons_succ]; exact rfl
                · exact rfl
                go_simp
                refine (Hc.out _ (et3 Hb9.out hKd)).mono ?_
                rintro e w33 ⟨rfl, hb33⟩
                have hK33 : Below w9.heap.size w9 w33 := et3 hKd hb33
                refine hJ _ _ hK33 ?_
                clear hJ J hb33
                try simp only [Act.put, List.setIfInBounds_toArray, List.set_cons_zero, List.set_cons_succ]
                refine' hold_sole ?_ ?_ (fun J hJ => ?_)
                rotate_left 1
                · simp only [List.getElem?_toArray, List.getElem?_cons_zero, List.getElem?_cons_succ]; exact rfl
                · exact rfl
                go_simp
                refine (Hvx.out _ (et3 Hb9.out hK33)).mono ?_
                rintro e w34 ⟨rs34, rfl, hm34, hb34⟩
                have hK34 : Below w9.heap.size w9 w34 := et3 hK33 hb34
                refine hJ _ _ hK34 ?_
                clear hJ J hb34
                try simp only [Act.put, List.setIfInBounds_toArray, List.set_cons_zero, List.set_cons_succ]
                refine' hold_sole ?_ ?_ (fun J hJ => ?_)
                rotate_left 1
                · simp only [List.getElem?_toArray, List.getElem?_cons_zero, List.getElem?_cons_succ]; exact rfl
                · exact rfl
                go_simp
                refine (Hvy.out _ (et3 Hb9.out hK34)).mono ?_
                rintro e w35 ⟨rs35, rfl, hm35, hb35⟩
                have hK35 : Below w9.heap.size w9 w35 := et3 hK34 hb35
                have hma_35 := eat3 hm34 hb35
                refine hJ _ _ hK35 ?_
                clear hJ J hb35
                try simp only [Act.put, List.setIfInBounds_toArray, List.set_cons_zero, List.set_cons_succ]
                refine' hold_sole ?_ ?_ (fun J hJ => ?_)
                rotate_left 1
                · simp only [List.getElem?_toArray, List.getElem?_cons_zero, List.getElem?_cons_succ]; exact rfl
                · exact rfl
                go_simp
                refine (HRxy.out _ _ _ hma_35 hm35).mono ?_
                rintro e w36 ⟨rfl, hb36⟩
                have hK36 : Below w9.heap.size w9 w36 := et3 hK35 hb36
                have hma_36 := eat3 hma_35 hb36
                have hmb_36 := eat3 hm35 hb36
                refine hJ _ _ hK36 ?_
                clear hJ J hb36
                try simp only [Act.put, List.setIfInBounds_toArray, List.set_cons_zero, List.set_cons_succ]
                repeat (first
                    | (refine' hold_skip ?_ ?_ ?_
                       rotate_left 1
                       · simp only [List.getElem?_toArray, List.getElem?_cons_zero, List.getElem?_cons_succ]; exact rfl
                       · exact rfl
                       simp only [Act.put, List.setIfInBounds_toArray, List.set_cons_zero, List.set_cons_succ])
                    | (refine' hold_want ?_ ?_ (fun J hJ => ?_)
                       rotate_left 1
                       · simp only [List.getElem?_toArray, List.getElem?_cons_zero, List.getElem?_cons_succ]; exact rfl
                       · exact rfl
                       first
                       | (refine quiet_load_val _ rfl w.heap.size 0 [.int .i64 k1, .int .u8 z1, .slice a1 len1 cap1] rfl (fun w' ⟨L1, hL1⟩ => hL1 ▸ HXx.out _ (et3 Hb9.out L1.ok)) ?_; refine hJ _ ?_; clear hJ J; try simp only [Act.put, List.setIfInBounds_toArray, List.set_cons_zero, List.set_cons_succ])
                       | (refine quiet_load_val _ rfl (w.heap.size + 1) 0 [.int .i64 k2, .int .u8 z2, .slice a2 len2 cap2] rfl (fun w' ⟨L1, hL1⟩ => hL1 ▸ HXy.out _ (et3 Hb9.out L1.ok)) ?_; refine hJ _ ?_; clear hJ J; try simp only [Act.put, List.setIfInBounds_toArray, List.set_cons_zero, List.set_cons_succ])
                       | (refine quiet_extract _ _ rfl _ _ rfl rfl ?_; refine hJ _ ?_; clear hJ J; try simp only [Act.put, List.setIfInBounds_toArray, List.set_cons_zero, List.set_cons_succ])
                       | (go_big_quiet_op; refine hJ _ ?_; clear hJ J; try simp only [Act.put, List.setIfInBounds_toArray, List.set_cons_zero, List.set_cons_succ])))
                refine' hold_sole ?_ ?_ (fun J hJ => ?_)
                rotate_left 1
                · simp only [List.getElem?_toArray, List.getElem?_cons_zero, List.getElem?_cons_succ]; exact rfl
                · exact rfl
                go_simp
                refine (Hap.out _ (et3 Hb9.out hK36)).mono ?_
                rintro e w37 ⟨rfl, hb37⟩
                have hK37 : Below w9.heap.size w9 w37 := et3 hK36 hb37
                have hma_37 := eat3 hma_36 hb37
                have hmb_37 := eat3 hmb_36 hb37
                refine hJ _ _ hK37 ?_
                clear hJ J hb37
                try simp only [Act.put, List.setIfInBounds_toArray, List.set_cons_zero, List.set_cons_succ]
                repeat (first
                    | (refine' hold_skip ?_ ?_ ?_
                       rotate_left 1
                       · simp only [List.getElem?_toArray, List.getElem?_cons_zero, List.getElem?_cons_succ]; exact rfl
                       · exact rfl
                       simp only [Act.put, List.setIfInBounds_toArray, List.set_cons_zero, List.set_cons_succ])
                    | (refine' hold_want ?_ ?_ (fun J hJ => ?_)
                       rotate_left 1
                       · simp only [List.getElem?_toArray, List.getElem?_cons_zero, List.getElem?_cons_succ]; exact rfl
                       · exact rfl
                       first
                       | (refine quiet_load_val _ rfl w.heap.size 0 [.int .i64 k1, .int .u8 z1, .slice a1 len1 cap1] rfl (fun w' ⟨L1, hL1⟩ => hL1 ▸ HXx.out _ (et3 Hb9.out L1.ok)) ?_; refine hJ _ ?_; clear hJ J; try simp only [Act.put, List.setIfInBounds_toArray, List.set_cons_zero, List.set_cons_succ])
                       | (refine quiet_load_val _ rfl (w.heap.size + 1) 0 [.int .i64 k2, .int .u8 z2, .slice a2 len2 cap2] rfl (fun w' ⟨L1, hL1⟩ => hL1 ▸ HXy.out _ (et3 Hb9.out L1.ok)) ?_; refine hJ _ ?_; clear hJ J; try simp only [Act.put, List.setIfInBounds_toArray, List.set_cons_zero, List.set_cons_succ])
                       | (refine quiet_extract _ _ rfl _ _ rfl rfl ?_; refine hJ _ ?_; clear hJ J; try simp only [Act.put, List.setIfInBounds_toArray, List.set_cons_zero, List.set_cons_succ])
                       | (go_big_quiet_op; refine hJ _ ?_; clear hJ J; try simp only [Act.put, List.setIfInBounds_toArray, List.set_cons_zero, List.set_cons_succ])))
                refine hold_done ?_
                have HE9 := Lib.hid (et3 Hb9.out hK37)
                go_wp2_with fail
                go_ret
                exact ⟨rfl, HbW.out.trans (HE9.out.mono HbW.out.size)⟩
            · have e1 : (tx.toList == ty.toList) = false := by rw [HE.out, decide_eq_false heq]
              have HA0 : Hid (A = (q : Int)) := Lib.hid (by rw [HAP.out, hqq, Hep.out]; unfold apartL; rw [if_neg heq])
              clear hqe hqq heq hq
              go_wp2_with fail
              refine (Hcall.out _ Hb8.out).mono ?_
              rintro e w9 ⟨rfl, hb9⟩
              have Hb9 := Lib.hid (et3 Hb8.out hb9)
              clear hb9
              go_upto_region 20 with fail
              rw [HA0.out] at Hap
              cases ok
              · have d4 : decide ((0 : Int) ≤ bi) = false := Hok.out.1
                have d5 : decide (bi ≥ 0) = false := d4
                obtain ⟨wd, hwd⟩ : ∃ wd, wd = w9.drew := ⟨_, rfl⟩
                have hKd : Below w9.heap.size w9 wd := by rw [hwd]; exact (Below.refl _ _).drew
                have hNE := HeldW.nonempty (S := fun w' => Below w9.heap.size w9 w') hKd
                refine wp_region_hold (fun w' => Below w9.heap.size w9 w') (.plain 0 (.plain 1 (.plain 3 (.plain 5 (.sole 2 (.sole 4 (.sole 6 (.sole 7 (.plain 8 (.plain 9 (.plain 10 (.plain 11 (.plain 13 (.sole 12 (.plain 14 (.plain 15 (.plain 16 (.plain 17 (.plain 18 (.plain 19 (.plain 20 (.plain 21 (.plain 22 (.plain 23 (.plain 24 (.plain 25 (.plain 26 (.plain 27 (.plain 28 (.plain 29 (.plain 30 (.plain 31 .done)))))))))))))))))))))))))))))))) (by rw [← hwd]; exact hKd) (by kernel_rfl) (by kernel_rfl) (fun c a d v w h => by cases d <;> exact h) ?_
                rw [← hwd]
                clear hwd
                repeat (first
                    | (refine' hold_skip ?_ ?_ ?_
                       rotate_left 1
                       · simp only [List.getElem?_toArray, List.getElem?_cons_zero, List.getElem?_cons_succ]; exact rfl
                       · exact rfl
                       simp only [Act.put, List.setIfInBounds_toArray, List.set_cons_zero, List.set_cons_succ])
                    | (refine' hold_want ?_ ?_ (fun J hJ => ?_)
                       rotate_left 1
                       · simp only [List.getElem?_toArray, List.getElem?_cons_zero, List.getElem?_cons_succ]; exact rfl
                       · exact rfl
                       first
                       | (refine quiet_load_val _ rfl w.heap.size 0 [.int .i64 k1, .int .u8 z1, .slice a1 len1 cap1] rfl (fun w' ⟨L1, hL1⟩ => hL1 ▸ HXx.out _ (et3 Hb9.out L1.ok)) ?_; refine hJ _ ?_; clear hJ J; try simp only [Act.put, List.setIfInBounds_toArray, List.set_cons_zero, List.set_cons_succ])
                       | (refine quiet_load_val _ rfl (w.heap.size + 1) 0 [.int .i64 k2, .int .u8 z2, .slice a2 len2 cap2] rfl (fun w' ⟨L1, hL1⟩ => hL1 ▸ HXy.out _ (et3 Hb9.out L1.ok)) ?_; refine hJ _ ?_; clear hJ J; try simp only [Act.put, List.setIfInBounds_toArray, List.set_cons_zero, List.set_cons_succ])
                       | (refine quiet_extract _ _ rfl _ _ rfl rfl ?_; refine hJ _ ?_; clear hJ J; try simp only [Act.put, List.setIfInBounds_toArray, List.set_cons_zero, List.set_cons_succ])
                       | (go_big_quiet_op; refine hJ _ ?_; clear hJ J; try simp only [Act.put, List.setIfInBounds_toArray, List.set_cons_zero, List.set_cons_succ])))
                refine' hold_sole ?_ ?_ (fun J hJ => ?_)
                rotate_left 1
                · simp only [List.getElem?_toArray, List.getElem?_cons_zero, List.getElem?_cons_succ]; exact rfl
                · exact rfl
                go_simp
                refine (Hc.out _ (et3 Hb9.out hKd)).mono ?_
                rintro e w38 ⟨rfl, hb38⟩
                have hK38 : Below w9.heap.size w9 w38 := et3 hKd hb38
                refine hJ _ _ hK38 ?_
                clear hJ J hb38
                try simp only [Act.put, List.setIfInBounds_toArray, List.set_cons_zero, List.set_cons_succ]
                refine' hold_sole ?_ ?_ (fun J hJ => ?_)
                rotate_left 1
                · simp only [List.getElem?_toArray, List.getElem?_cons_zero, List.getElem?_cons_succ]; exact rfl
                · exact rfl
                go_simp
                refine (Hvx.out _ (et3 Hb9.out hK38)).mono ?_
                rintro e w39 ⟨rs39, rfl, hm39, hb39⟩
                have hK39 : Below w9.heap.size w9 w39 := et3 hK38 hb39
                refine hJ _ _ hK39 ?_
                clear hJ J hb39
                try simp only [Act.put, List.setIfInBounds_toArray, List.set_cons_zero, List.set_cons_succ]
                refine' hold_sole ?_ ?_ (fun J hJ => ?_)
                rotate_left 1
                · simp only [List.getElem?_toArray, List.getElem?_cons_zero, List.getElem?_cons_succ]; exact rfl
                · exact rfl
                go_simp
                refine (Hvy.out _ (et3 Hb9.out hK39)).mono ?_
                rintro e w40 ⟨rs40, rfl, hm40, hb40⟩
                have hK40 : Below w9.heap.size w9 w40 := et3 hK39 hb40
                have hma_40 := eat3 hm39 hb40
                refine hJ _ _ hK40 ?_
                clear hJ J hb40
                try simp only [Act.put, List.setIfInBounds_toArray, List.set_cons_zero, List.set_cons_succ]
                refine' hold_sole ?_ ?_ (fun J hJ => ?_)
                rotate_left 1
                · simp only [List.getElem?_toArray, List.getElem?_cons_zero, List.getElem?_cons_succ]; exact rfl
                · exact rfl
                go_simp
                refine (HRxy.out _ _ _ hma_40 hm40).mono ?_
                rintro e w41 ⟨rfl, hb41⟩
                have hK41 : Below w9.heap.size w9 w41 := et3 hK40 hb41
                have hma_41 := eat3 hma_40 hb41
                have hmb_41 := eat3 hm40 hb41
                refine hJ _ _ hK41 ?_
                clear hJ J hb41
                try simp only [Act.put, List.setIfInBounds_toArray, List.set_cons_zero, List.set_cons_succ]
                repeat (first
                    | (refine' hold_skip ?_ ?_ ?_
                       rotate_left 1
                       · simp only [List.getElem?_toArray, List.getElem?_cons_zero, List.getElem?_cons_succ]; exact rfl
                       · exact rfl
                       simp only [Act.put, List.setIfInBounds_toArray, List.set_cons_zero, List.set_cons_succ])
                    | (refine' hold_want ?_ ?_ (fun J hJ => ?_)
                       rotate_left 1
                       · simp only [List.getElem?_toArray, List.getElem?_cons_zero, List.getElem?_cons_succ]; exact rfl
                       · exact rfl
                       first
                       | (refine quiet_load_val _ rfl w.heap.size 0 [.int .i64 k1, .int .u8 z1, .slice a1 len1 cap1] rfl (fun w' ⟨L1, hL1⟩ => hL1 ▸ HXx.out _ (et3 Hb9.out L1.ok)) ?_; refine hJ _ ?_; clear hJ J; try simp only [Act.put, List.setIfInBounds_toArray, List.set_cons_zero, List.set_cons_succ])
                       | (refine quiet_load_val _ rfl (w.heap.size + 1) 0 [.int .i64 k2, .int .u8 z2, .slice a2 len2 cap2] rfl (fun w' ⟨L1, hL1⟩ => hL1 ▸ HXy.out _ (et3 Hb9.out L1.ok)) ?_; refine hJ _ ?_; clear hJ J; try simp only [Act.put, List.setIfInBounds_toArray, List.set_cons_zero, List.set_cons_succ])
                       | (refine quiet_extract _ _ rfl _ _ rfl rfl ?_; refine hJ _ ?_; clear hJ J; try simp only [Act.put, List.setIfInBounds_toArray, List.set_cons_zero, List.set_cons_succ])
                       | (go_big_quiet_op; refine hJ _ ?_; clear hJ J; try simp only [Act.put, List.setIfInBounds_toArray, List.set_cons_zero, List.set_cons_succ])))
                refine' hold_sole ?_ ?_ (fun J hJ => ?_)
                rotate_left 1
                · simp only [List.getElem?_toArray, List.getElem?_cons_zero, List.getElem?_cons_succ]; exact rfl
                · exact rfl
                go_simp
                refine (Hap.out _ (et3 Hb9.out hK41)).mono ?_
                rintro e w42 ⟨rfl, hb42⟩
                have hK42 : Below w9.heap.size w9 w42 := et3 hK41 hb42
                have hma_42 := eat3 hma_41 hb42
                have hmb_42 := eat3 hmb_41 hb42
                refine hJ _ _ hK42 ?_
                clear hJ J hb42
                try simp only [Act.put, List.setIfInBounds_toArray, List.set_cons_zero, List.set_cons_succ]
                repeat (first
                    | (refine' hold_skip ?_ ?_ ?_
                       rotate_left 1
                       · simp only [List.getElem?_toArray, List.getElem?_cons_zero, List.getElem?_cons_succ]; exact rfl
                       · exact rfl
                       simp only [Act.put, List.setIfInBounds_toArray, List.set_cons_zero, List.set_cons_succ])
                    | (refine' hold_want ?_ ?_ (fun J hJ => ?_)
                       rotate_left 1
                       · simp only [List.getElem?_toArray, List.getElem?_cons_zero, List.getElem?_cons_succ]; exact rfl
                       · exact rfl
                       first
                       | (refine quiet_load_val _ rfl w.heap.size 0 [.int .i64 k1, .int .u8 z1, .slice a1 len1 cap1] rfl (fun w' ⟨L1, hL1⟩ => hL1 ▸ HXx.out _ (et3 Hb9.out L1.ok)) ?_; refine hJ _ ?_; clear hJ J; try simp only [Act.put, List.setIfInBounds_toArray, List.set_cons_zero, List.set_cons_succ])
                       | (refine quiet_load_val _ rfl (w.heap.size + 1) 0 [.int .i64 k2, .int .u8 z2, .slice a2 len2 cap2] rfl (fun w' ⟨L1, hL1⟩ => hL1 ▸ HXy.out _ (et3 Hb9.out L1.ok)) ?_; refine hJ _ ?_; clear hJ J; try simp only [Act.put, List.setIfInBounds_toArray, List.set_cons_zero, List.set_cons_succ])
                       | (refine quiet_extract _ _ rfl _ _ rfl rfl ?_; refine hJ _ ?_; clear hJ J; try simp only [Act.put, List.setIfInBounds_toArray, List.set_cons_zero, List.set_cons_succ])
                       | (go_big_quiet_op; refine hJ _ ?_; clear hJ J; try simp only [Act.put, List.setIfInBounds_toArray, List.set_cons_zero, List.set_cons_succ])))
                refine hold_done ?_
                have HE9 := Lib.hid (et3 Hb9.out hK42)
                go_wp2_with fail
                go_ret
                exact ⟨rfl, HbW.out.trans (HE9.out.mono HbW.out.size)⟩
              · have d4 : decide ((0 : Int) ≤ bi) = true := Hok.out.1
                obtain rfl : bi = (i : Int) := Hok.out.2 rfl
                have d5 : decide ((i : Int) ≥ 0) = true := d4
                obtain ⟨wd, hwd⟩ : ∃ wd, wd = w9.drew := ⟨_, rfl⟩
                have hKd : Below w9.heap.size w9 wd := by rw [hwd]; exact (Below.refl _ _).drew
                have hNE := HeldW.nonempty (S := fun w' => Below w9.heap.size w9 w') hKd
                refine wp_region_hold (fun w' => Below w9.heap.size w9 w') (.plain 0 (.plain 1 (.plain 3 (.plain 5 (.sole 2 (.sole 4 (.sole 6 (.sole 7 (.plain 8 (.plain 9 (.plain 10 (.plain 11 (.plain 13 (.sole 12 (.plain 14 (.plain 15 (.plain 16 (.plain 17 (.plain 18 (.plain 19 (.plain 20 (.plain 21 (.plain 22 (.plain 23 (.plain 24 (.plain 25 (.plain 26 (.plain 27 (.plain 28 (.plain 29 (.plain 30 (.plain 31 .done)))))))))))))))))))))))))))))))) (by rw [← hwd]; exact hKd) (by kernel_rfl) (by kernel_rfl) (fun c a d v w h => by cases d <;> exact h) ?_
                rw [← hwd]
                clear hwd
                repeat (first
                    | (refine' hold_skip ?_ ?_ ?_
                       rotate_left 1
                       · simp only [List.getElem?_toArray, List.getElem?_cons_zero, List.getElem?_cons_succ]; exact rfl
                       · exact rfl
                       simp only [Act.put, List.setIfInBounds_toArray, List.set_cons_zero, List.set_cons_succ])
                    | (refine' hold_want ?_ ?_ (fun J hJ => ?_)
                       rotate_left 1
                       · simp only [List.getElem?_toArray, List.getElem?_cons_zero, List.getElem?_cons_succ]; exact rfl
                       · exact rfl
                       first
                       | (refine quiet_load_val _ rfl w.heap.size 0 [.int .i64 k1, .int .u8 z1, .slice a1 len1 cap1] rfl (fun w' ⟨L1, hL1⟩ => hL1 ▸ HXx.out _ (et3 Hb9.out L1.ok)) ?_; refine hJ _ ?_; clear hJ J; try simp only [Act.put, List.setIfInBounds_toArray, List.set_cons_zero, List.set_cons_succ])
                       | (refine quiet_load_val _ rfl (w.heap.size + 1) 0 [.int .i64 k2, .int .u8 z2, .slice a2 len2 cap2] rfl (fun w' ⟨L1, hL1⟩ => hL1 ▸ HXy.out _ (et3 Hb9.out L1.ok)) ?_; refine hJ _ ?_; clear hJ J; try simp only [Act.put, List.setIfInBounds_toArray, List.set_cons_zero, List.set_cons_succ])
                       | (refine quiet_extract _ _ rfl _ _ rfl rfl ?_; refine hJ _ ?_; clear hJ J; try simp only [Act.put, List.setIfInBounds_toArray, List.set_cons_zero, List.set_cons_succ])
                       | (go_big_quiet_op; refine hJ _ ?_; clear hJ J; try simp only [Act.put, List.setIfInBounds_toArray, List.set_cons_zero, List.set_cons_succ])))
                refine' hold_sole ?_ ?_ (fun J hJ => ?_)
                rotate_left 1
                · simp only [List.getElem?_toArray, List.getElem?_cons_zero, List.getElem?_cons_succ]; exact rfl
                · exact rfl
                go_simp
                refine (Hc.out _ (et3 Hb9.out hKd)).mono ?_
                rintro e w43 ⟨rfl, hb43⟩
                have hK43 : Below w9.heap.size w9 w43 := et3 hKd hb43
                refine hJ _ _ hK43 ?_
                clear hJ J hb43
                try simp only [Act.put, List.setIfInBounds_toArray, List.set_cons_zero, List.set_cons_succ]
                refine' hold_sole ?_ ?_ (fun J hJ => ?_)
                rotate_left 1
                · simp only [List.getElem?_toArray, List.getElem?_cons_zero, List.getElem?_cons_succ]; exact rfl
                · exact rfl
                go_simp
                refine (Hvx.out _ (et3 Hb9.out hK43)).mono ?_
                rintro e w44 ⟨rs44, rfl, hm44, hb44⟩
                have hK44 : Below w9.heap.size w9 w44 := et3 hK43 hb44
                refine hJ _ _ hK44 ?_
                clear hJ J hb44
                try simp only [Act.put, List.setIfInBounds_toArray, List.set_cons_zero, List.set_cons_succ]
                refine' hold_sole ?_ ?_ (fun J hJ => ?_)
                rotate_left 1
                · simp only [List.getElem?_toArray, List.getElem?_cons_zero, List.getElem?_cons_succ]; exact rfl
                · exact rfl
                go_simp
                refine (Hvy.out _ (et3 Hb9.out hK44)).mono ?_
                rintro e w45 ⟨rs45, rfl, hm45, hb45⟩
                have hK45 : Below w9.heap.size w9 w45 := et3 hK44 hb45
                have hma_45 := eat3 hm44 hb45
                refine hJ _ _ hK45 ?_
                clear hJ J hb45
                try simp only [Act.put, List.setIfInBounds_toArray, List.set_cons_zero, List.set_cons_succ]
                refine' hold_sole ?_ ?_ (fun J hJ => ?_)
                rotate_left 1
                · simp only [List.getElem?_toArray, List.getElem?_cons_zero, List.getElem?_cons_succ]; exact rfl
                · exact rfl
                go_simp
                refine (HRxy.out _ _ _ hma_45 hm45).mono ?_
                rintro e w46 ⟨rfl, hb46⟩
                have hK46 : Below w9.heap.size w9 w46 := et3 hK45 hb46
                have hma_46 := eat3 hma_45 hb46
                have hmb_46 := eat3 hm45 hb46
                refine hJ _ _ hK46 ?_
                clear hJ J hb46
                try simp only [Act.put, List.setIfInBounds_toArray, List.set_cons_zero, List.set_cons_succ]
                repeat (first
                    | (refine' hold_skip ?_ ?_ ?_
                       rotate_left 1
                       · simp only [List.getElem?_toArray, List.getElem?_cons_zero, List.getElem?_cons_succ]; exact rfl
                       · exact rfl
                       simp only [Act.put, List.setIfInBounds_toArray, List.set_cons_zero, List.set_cons_succ])
                    | (refine' hold_want ?_ ?_ (fun J hJ => ?_)
                       rotate_left 1
                       · simp only [List.getElem?_toArray, List.getElem?_cons_zero, List.getElem?_cons_succ]; exact rfl
                       · exact rfl
                       first
                       | (refine quiet_load_val _ rfl w.heap.size 0 [.int .i64 k1, .int .u8 z1, .slice a1 len1 cap1] rfl (fun w' ⟨L1, hL1⟩ => hL1 ▸ HXx.out _ (et3 Hb9.out L1.ok)) ?_; refine hJ _ ?_; clear hJ J; try simp only [Act.put, List.setIfInBounds_toArray, List.set_cons_zero, List.set_cons_succ])
                       | (refine quiet_load_val _ rfl (w.heap.size + 1) 0 [.int .i64 k2, .int .u8 z2, .slice a2 len2 cap2] rfl (fun w' ⟨L1, hL1⟩ => hL1 ▸ HXy.out _ (et3 Hb9.out L1.ok)) ?_; refine hJ _ ?_; clear hJ J; try simp only [Act.put, List.setIfInBounds_toArray, List.set_cons_zero, List.set_cons_succ])
                       | (refine quiet_extract _ _ rfl _ _ rfl rfl ?_; refine hJ _ ?_; clear hJ J; try simp only [Act.put, List.setIfInBounds_toArray, List.set_cons_zero, List.set_cons_succ])
                       | (go_big_quiet_op; refine hJ _ ?_; clear hJ J; try simp only [Act.put, List.setIfInBounds_toArray, List.set_cons_zero, List.set_cons_succ])))
                refine' hold_sole ?_ ?_ (fun J hJ => ?_)
                rotate_left 1
                · simp only [List.getElem?_toArray, List.getElem?_cons_zero, List.getElem?_cons_succ]; exact rfl
                · exact rfl
                go_simp
                refine (Hap.out _ (et3 Hb9.out hK46)).mono ?_
                rintro e w47 ⟨rfl, hb47⟩
                have hK47 : Below w9.heap.size w9 w47 := et3 hK46 hb47
                have hma_47 := eat3 hma_46 hb47
                have hmb_47 := eat3 hmb_46 hb47
                refine hJ _ _ hK47 ?_
                clear hJ J hb47
                try simp only [Act.put, List.setIfInBounds_toArray, List.set_cons_zero, List.set_cons_succ]
                repeat (first
                    | (refine' hold_skip ?_ ?_ ?_
                       rotate_left 1
                       · simp only [List.getElem?_toArray, List.getElem?_cons_zero, List.getElem?_cons_succ]; exact rfl
                       · exact rfl
                       simp only [Act.put, List.setIfInBounds_toArray, List.set_cons_zero, List.set_cons_succ])
                    | (refine' hold_want ?_ ?_ (fun J hJ => ?_)
                       rotate_left 1
                       · simp only [List.getElem?_toArray, List.getElem?_cons_zero, List.getElem?_cons_succ]; exact rfl
                       · exact rfl
                       first
                       | (refine quiet_load_val _ rfl w.heap.size 0 [.int .i64 k1, .int .u8 z1, .slice a1 len1 cap1] rfl (fun w' ⟨L1, hL1⟩ => hL1 ▸ HXx.out _ (et3 Hb9.out L1.ok)) ?_; refine hJ _ ?_; clear hJ J; try simp only [Act.put, List.setIfInBounds_toArray, List.set_cons_zero, List.set_cons_succ])
                       | (refine quiet_load_val _ rfl (w.heap.size + 1) 0 [.int .i64 k2, .int .u8 z2, .slice a2 len2 cap2] rfl (fun w' ⟨L1, hL1⟩ => hL1 ▸ HXy.out _ (et3 Hb9.out L1.ok)) ?_; refine hJ _ ?_; clear hJ J; try simp only [Act.put, List.setIfInBounds_toArray, List.set_cons_zero, List.set_cons_succ])
                       | (refine quiet_extract _ _ rfl _ _ rfl rfl ?_; refine hJ _ ?_; clear hJ J; try simp only [Act.put, List.setIfInBounds_toArray, List.set_cons_zero, List.set_cons_succ])
                       | (go_big_quiet_op; refine hJ _ ?_; clear hJ J; try simp only [Act.put, List.setIfInBounds_toArray, List.set_cons_zero, List.set_cons_succ])))
                refine hold_done ?_
                have HE9 := Lib.hid (et3 Hb9.out hK47)
                go_wp2_with fail
                go_ret
                exact ⟨rfl, HbW.out.trans (HE9.out.mono HbW.out.size)⟩
end V
end Go.Proofs.Ytblgjcolmaidlaa
