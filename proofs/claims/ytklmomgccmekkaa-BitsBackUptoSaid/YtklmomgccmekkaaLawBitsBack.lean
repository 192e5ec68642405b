/- The law BitsBack, walked: any core, any value of at most so many parts, any choices, any bytes. -/
import Derived.Test.YtklmomgccmekkaaBitsLaw
import Derived.Test.YtklmomgccmekkaaValWide
import Derived.Test.YtklmomgccmekkaaCoreBig
import Derived.Test.YtklmomgccmekkaaHoldKit
import Derived.Test.YtklmomgccmekkaaAnyInv
namespace Go.Proofs.Ytklmomgccmekkaa
namespace V
set_option maxRecDepth 100000
open Go.RowKit
set_option maxHeartbeats 16000000 in
theorem bitsBack_walk (x : K.Cr) (cs : List Value) (v : Vl) (ds : List Value) (t : ByteArray) (a : Option Addr) (n cap : Nat) (l : List Nat) (w : World) (hx : K.Cr.at w x cs) (hv : Vl.at w v ds) (hl : BytesAt w a n cap l) (hsv : v.count ≤ 1048576) :
    Calls Try.prog 5 #[.agg cs.toArray, .agg ds.toArray, .string t, .slice a n cap] w fun e w' => e = .returned (.bool true) ∧ Below w.heap.size w w' := by
  obtain ⟨W, hW⟩ : ∃ W, W = (w.alloc (.cells cs.toArray 28)).alloc (.cells ds.toArray 35) := ⟨_, rfl⟩
  have hbW : Below w.heap.size w W := by rw [hW]; exact (((Below.refl _ _).alloc (Nat.le_refl _) _).alloc (by simp) _)
  have hsW : W.heap.size = w.heap.size + 2 := by rw [hW]; simp
  have hxx : K.Core7 W w.heap.size 0 cs := by
    have h := World.alloc_heap_new w (.cells cs.toArray 28)
    rw [hW]
    exact core7_below (K.core7_in h (K.at_len hx)) (B := w.heap.size + 1) (by omega) ((Below.refl _ _).alloc (by first | (simp; done) | (simp; omega)) _)
  have hxv : Val3 W (w.heap.size + 1) 0 ds := by
    have h := World.alloc_heap_new (w.alloc (.cells cs.toArray 28)) (.cells ds.toArray 35)
    rw [World.size_alloc] at h
    rw [hW]
    exact (val3_in h (at_len hv))
  have HXx : Hid (∀ w', Below W.heap.size W w' → K.Core7 w' w.heap.size 0 cs) := Lib.hid fun w' h => core7_below hxx (by omega) h
  have HAx : Hid (∀ w', Below W.heap.size W w' → K.Cr.at w' x cs) := Lib.hid fun w' h => K.Cr.at_below (hbW.trans (h.mono hbW.size)) (Nat.le_refl _) _ _ hx
  have HXv : Hid (∀ w', Below W.heap.size W w' → Val3 w' (w.heap.size + 1) 0 ds) := Lib.hid fun w' h => Val3.below hxv (by omega) h
  have HAv : Hid (∀ w', Below W.heap.size W w' → Vl.at w' v ds) := Lib.hid fun w' h => Vl.at_below (hbW.trans (h.mono hbW.size)) (Nat.le_refl _) _ _ hv
  have HbW := Lib.hid hbW
  have HsW := Lib.hid hsW
  clear hbW hsW hxx hxv
  have HAl : Hid (∀ w', Below W.heap.size W w' → BytesAt w' a n cap l) := Lib.hid fun w' h => bytes_keep hl (HbW.out.trans (h.mono HbW.out.size))
  have hn := hl.1
  have hmx : (n : Int) ≤ 9223372036854775807 := by have := hl.2.2.1; unfold maxLen at this; omega
  have HN := Lib.hid hn
  have Hsv := Lib.hid hsv
  obtain ⟨kx, sx, nx, ax, lenx, capx, rfl⟩ := K.at_lit hx
  obtain ⟨kv, zv, av, lenv, capv, rfl⟩ := at_lit hv
  have Hb0 := Lib.hid (Below.refl W.heap.size W)
  clear hx hv hl hn hsv
  go_enter Try.func5, Try.ntmps5
  go_upto_region 1 with fail
  rw [← hW]
  clear hW
  go_wp2_with fail
  refine (awake11_any _).mono ?_
  rintro e w1 ⟨rfl, hb'⟩
  have Hb1 := Lib.hid (Hb0.out.trans (hb'.mono Hb0.out.size))
  clear hb'
  go_wp2_with (first | (refine K.wpList_load_core rfl _ rfl w.heap.size 0 _ rfl (HXx.out _ Hb1.out) ?_) | fail)
  refine (K.big_any 100 x _ _ (by decide) (HAx.out _ Hb1.out)).mono ?_
  rintro e w2 ⟨rfl, hb'⟩
  have Hb2 := Lib.hid (Hb1.out.trans (hb'.mono Hb1.out.size))
  clear hb'
  generalize K.bigN 100 x = bx at *
  cases bx
  case true =>
    go_wp2_with fail
    go_ret
    exact ⟨rfl, HbW.out.trans (Hb2.out.mono HbW.out.size)⟩
  go_wp2_with (first | (refine wpList_load_val_want rfl _ rfl (w.heap.size + 1) 0 _ rfl (HXv.out _ Hb2.out) ?_) | fail)
  refine (wide_any 40 v _ _ (by decide) (HAv.out _ Hb2.out)).mono ?_
  rintro e w3 ⟨rfl, hb'⟩
  have Hb3 := Lib.hid (Hb2.out.trans (hb'.mono Hb2.out.size))
  clear hb'
  generalize wideN 40 v = bw at *
  cases bw
  case true =>
    go_wp2_with fail
    go_ret
    exact ⟨rfl, HbW.out.trans (Hb3.out.mono HbW.out.size)⟩
  go_wp2_with (first | (refine wpList_load_val_want rfl _ rfl (w.heap.size + 1) 0 _ rfl (HXv.out _ Hb3.out) ?_) | fail)
  refine (len_z (HAv.out _ Hb3.out) Hsv.out).mono ?_
  rintro e w4 ⟨rfl, hb'⟩
  have Hb4 := Lib.hid (Hb3.out.trans (hb'.mono Hb3.out.size))
  clear hb'
  obtain ⟨lf, hlf⟩ : ∃ lf, lf = v.flat.length := ⟨_, rfl⟩
  rw [← hlf]
  have HLf := Lib.hid hlf
  clear hlf
  by_cases c1 : 200 < lf
  · have c1_0 : decide ((lf : Int) > 200) = true := by simp; omega
    have c1_1 : decide ((200 : Int) < lf) = true := by simp; omega
    have c1_2 : decide (200 < lf) = true := by simp; omega
    clear c1
    go_wp2_with fail
    go_ret
    exact ⟨rfl, HbW.out.trans (Hb4.out.mono HbW.out.size)⟩
  have c1_0 : decide ((lf : Int) > 200) = false := by simp; omega
  have c1_1 : decide ((200 : Int) < lf) = false := by simp; omega
  have c1_2 : decide (200 < lf) = false := by simp; omega
  have C1H := Lib.hid c1
  clear c1
  by_cases c2 : 200 < t.size
  · have c2_0 : decide ((t.size : Int) > 200) = true := by simp; omega
    have c2_1 : decide ((200 : Int) < t.size) = true := by simp; omega
    have c2_2 : decide (200 < t.size) = true := by simp; omega
    clear c2
    go_wp2_with fail
    go_ret
    exact ⟨rfl, HbW.out.trans (Hb4.out.mono HbW.out.size)⟩
  have c2_0 : decide ((t.size : Int) > 200) = false := by simp; omega
  have c2_1 : decide ((200 : Int) < t.size) = false := by simp; omega
  have c2_2 : decide (200 < t.size) = false := by simp; omega
  have C2H := Lib.hid c2
  clear c2
  by_cases c3 : 100 < n
  · have c3_0 : decide ((n : Int) > 100) = true := by simp; omega
    have c3_1 : decide ((100 : Int) < n) = true := by simp; omega
    have c3_2 : decide (100 < n) = true := by simp; omega
    clear c3
    go_wp2_with fail
    go_ret
    exact ⟨rfl, HbW.out.trans (Hb4.out.mono HbW.out.size)⟩
  have c3_0 : decide ((n : Int) > 100) = false := by simp; omega
  have c3_1 : decide ((100 : Int) < n) = false := by simp; omega
  have c3_2 : decide (100 < n) = false := by simp; omega
  have C3H := Lib.hid c3
  clear c3
  go_wp2_with (first
    | (refine K.wpList_load_core rfl _ rfl w.heap.size 0 _ rfl (HXx.out _ Hb4.out) ?_)
    | (refine wpList_load_val rfl _ rfl (w.heap.size + 1) 0 _ rfl (HXv.out _ Hb4.out) ?_)
    | fail)
  clear c1_0 c1_1 c1_2 c2_0 c2_1 c2_2 c3_0 c3_1 c3_2
  refine (full_z (HAx.out _ Hb4.out) (HAv.out _ Hb4.out) Hsv.out).mono ?_
  rintro e w5 ⟨rfl, hb'⟩
  have Hb5 := Lib.hid (Hb4.out.trans (hb'.mono Hb4.out.size))
  clear hb'
  cases hf : (K.goodC x && bel x v && v.fullB)
  case false =>
    obtain ⟨e1, he1⟩ : ∃ e1, e1 = (resG x (nats t) l).2 := ⟨_, rfl⟩
    obtain ⟨u1, hu1⟩ : ∃ u1, u1 = (resG x (nats t) l).1 := ⟨_, rfl⟩
    go_wp2_with (first | (refine K.wpList_load_core rfl _ rfl w.heap.size 0 _ rfl (HXx.out _ Hb5.out) ?_) | fail)
    refine (get_any (HAx.out _ Hb5.out) (HAl.out _ Hb5.out) (by have := C2H.out; omega)).mono ?_
    rintro e w9 ⟨k9, z9, a9, len9, cap9, rfl, hv9, hb'⟩
    rw [← he1]
    rw [← hu1] at hv9
    have He1 := Lib.hid he1
    have Hu1 := Lib.hid hu1
    clear he1 hu1
    obtain ⟨w10, hw10⟩ : ∃ w10, w10 = w9.alloc (.cells #[.int .i64 k9, .int .u8 z9, .slice a9 len9 cap9] 35) := ⟨_, rfl⟩
    have hal10 : Below w9.heap.size w9 w10 := by rw [hw10]; exact K.alloc_below w9 _
    have hb10 : Below W.heap.size W w10 := (Hb5.out.trans (hb'.mono Hb5.out.size)).trans (hal10.mono (by have := Hb5.out.size; have := hb'.size; omega))
    have hat10 := Vl.at_below hal10 (Nat.le_refl _) _ _ hv9.at
    have hx10 : ValIn w10 w9.heap.size #[.int .i64 k9, .int .u8 z9, .slice a9 len9 cap9] := by rw [hw10]; exact World.alloc_heap_new w9 _
    have h310 := val3_in (cs := [.int .i64 k9, .int .u8 z9, .slice a9 len9 cap9]) hx10 rfl
    have H10 := Lib.hid (fun (w' : World) (h : Below w10.heap.size w10 w') => And.intro (h310.below h310.lt h) (Vl.at_below h (Nat.le_refl _) _ _ hat10))
    have Hb10 := Lib.hid hb10
    clear hb' hal10 hb10 hat10 hx10 h310 hv9
    go_upto_region 10 with fail
    rw [← hw10]
    clear hw10
    go_cut [8] from 63 to 83 (fun v8 wx => v8 = .bool true ∧ Below w10.heap.size w10 wx)
    case first =>
      rename_i J K' hR hMet
      obtain ⟨wd, hwd⟩ : ∃ wd, wd = w10.drew := ⟨_, rfl⟩
      have hBd : Below w10.heap.size w10 wd := by rw [hwd]; exact (Below.refl _ _).drew
      have hNE := HeldW.nonempty (S := fun w' => Below w10.heap.size w10 w') hBd
      have he1 := He1.out
      have hu1 := Hu1.out
      by_cases hz : e1 = 0
      · subst hz
        obtain ⟨_, hgood, uu, hres, hbel, hfull, hput, hflat, hcount⟩ := resG_yes he1.symm
        rw [hres] at hu1
        obtain rfl : u1 = uu := hu1
        have hcnt : u1.count ≤ 1048576 := by have := C2H.out; rw [nats_length] at hcount; omega
        obtain ⟨tf, htf⟩ : ∃ tf : ByteArray, tf = ⟨(toBytes l).toArray⟩ := ⟨_, rfl⟩
        have hs0 := fun (w' : World) (h : Below w10.heap.size w10 w') => string_at (HAl.out w' (Hb10.out.trans (h.mono Hb10.out.size)))
        rw [← htf] at hs0
        have HF := Lib.hid (And.intro hgood (And.intro hbel (And.intro hfull (And.intro hput (And.intro hflat hcnt)))))
        have Htf := Lib.hid htf
        have Hs0 := Lib.hid hs0
        have hne0 : ((0 : Int) != 0) = false := rfl
        have htt : (t.toList == t.toList) = true := by simp
        have hff : (tf.toList == tf.toList) = true := by simp
        clear hgood hres hbel hfull hput hflat hcount hcnt htf hs0 he1 He1 Hu1
        refine wp_region_hold (fun w' => Below w10.heap.size w10 w') (.plain 0 (.plain 1 (.plain 2 (.plain 3 (.plain 4 (.sole 5 (.plain 6 (.plain 7 (.plain 9 (.sole 8 (.plain 10 (.plain 11 (.plain 12 (.plain 13 (.plain 16 (.plain 17 (.sole 14 (.sole 15 (.plain 18 (.plain 19 (.plain 20 (.plain 21 .done)))))))))))))))))))))) (by rw [← hwd]; exact hBd) (by kernel_rfl) (by kernel_rfl) (fun c a d v w h => by cases d <;> exact h) ?_
        rw [← hwd]
        clear hwd
        repeat (first
            | (refine' hold_skip ?_ ?_ ?_
               rotate_left 1
               · simp only [List.getElem?_toArray, List.getElem?_cons_zero, List.getElem?_cons_succ]; exact rfl
               · exact rfl
               simp only [Act.put, List.setIfInBounds_toArray, List.set_cons_zero, List.set_cons_succ])
            | (refine' hold_want ?_ ?_ (fun J hJ => ?_)
               rotate_left 1
               · simp only [List.getElem?_toArray, List.getElem?_cons_zero, List.getElem?_cons_succ]; exact rfl
               · exact rfl
               first
               | (refine K.quiet_load_core _ rfl w.heap.size 0 _ rfl (fun w' ⟨L, hL⟩ => HXx.out _ (Hb10.out.trans ((hL ▸ L.ok : Below w10.heap.size w10 w').mono Hb10.out.size))) ?_; refine hJ _ ?_; clear hJ J; try simp only [Act.put, List.setIfInBounds_toArray, List.set_cons_zero, List.set_cons_succ])
               | (refine quiet_load_val _ rfl w9.heap.size 0 _ rfl (fun w' ⟨L, hL⟩ => (H10.out _ (hL ▸ L.ok : Below w10.heap.size w10 w')).1) ?_; refine hJ _ ?_; clear hJ J; try simp only [Act.put, List.setIfInBounds_toArray, List.set_cons_zero, List.set_cons_succ])
               | (refine quiet_conv _ rfl _ (.string tf) rfl (fun w' ⟨L, hL⟩ => Hs0.out w' (hL ▸ L.ok : Below w10.heap.size w10 w')) ?_; refine hJ _ ?_; clear hJ J; try simp only [Act.put, List.setIfInBounds_toArray, List.set_cons_zero, List.set_cons_succ])
               | (refine quiet_extract _ _ rfl _ _ rfl rfl ?_; refine hJ _ ?_; clear hJ J; try simp only [Act.put, List.setIfInBounds_toArray, List.set_cons_zero, List.set_cons_succ])
               | (go_big_quiet_op; refine hJ _ ?_; clear hJ J; try simp only [Act.put, List.setIfInBounds_toArray, List.set_cons_zero, List.set_cons_succ])))
        refine' hold_sole ?_ ?_ (fun J hJ => ?_)
        rotate_left 1
        · simp only [List.getElem?_toArray, List.getElem?_cons_zero, List.getElem?_cons_succ]; exact rfl
        · exact rfl
        go_simp
        refine (full_z (HAx.out _ (Hb10.out.trans (hBd.mono Hb10.out.size))) (H10.out _ hBd).2 HF.out.2.2.2.2.2).mono ?_
        rintro e w11 ⟨rfl, hb11⟩
        have hB11 : Below w10.heap.size w10 w11 := hBd.trans (hb11.mono hBd.size)
        rw [HF.out.1, HF.out.2.1, HF.out.2.2.1]
        refine hJ _ _ hB11 ?_
        clear hJ J hb11
        try simp only [Act.put, List.setIfInBounds_toArray, List.set_cons_zero, List.set_cons_succ]
        repeat (first
            | (refine' hold_skip ?_ ?_ ?_
               rotate_left 1
               · simp only [List.getElem?_toArray, List.getElem?_cons_zero, List.getElem?_cons_succ]; exact rfl
               · exact rfl
               simp only [Act.put, List.setIfInBounds_toArray, List.set_cons_zero, List.set_cons_succ])
            | (refine' hold_want ?_ ?_ (fun J hJ => ?_)
               rotate_left 1
               · simp only [List.getElem?_toArray, List.getElem?_cons_zero, List.getElem?_cons_succ]; exact rfl
               · exact rfl
               first
               | (refine K.quiet_load_core _ rfl w.heap.size 0 _ rfl (fun w' ⟨L, hL⟩ => HXx.out _ (Hb10.out.trans ((hL ▸ L.ok : Below w10.heap.size w10 w').mono Hb10.out.size))) ?_; refine hJ _ ?_; clear hJ J; try simp only [Act.put, List.setIfInBounds_toArray, List.set_cons_zero, List.set_cons_succ])
               | (refine quiet_load_val _ rfl w9.heap.size 0 _ rfl (fun w' ⟨L, hL⟩ => (H10.out _ (hL ▸ L.ok : Below w10.heap.size w10 w')).1) ?_; refine hJ _ ?_; clear hJ J; try simp only [Act.put, List.setIfInBounds_toArray, List.set_cons_zero, List.set_cons_succ])
               | (refine quiet_conv _ rfl _ (.string tf) rfl (fun w' ⟨L, hL⟩ => Hs0.out w' (hL ▸ L.ok : Below w10.heap.size w10 w')) ?_; refine hJ _ ?_; clear hJ J; try simp only [Act.put, List.setIfInBounds_toArray, List.set_cons_zero, List.set_cons_succ])
               | (refine quiet_extract _ _ rfl _ _ rfl rfl ?_; refine hJ _ ?_; clear hJ J; try simp only [Act.put, List.setIfInBounds_toArray, List.set_cons_zero, List.set_cons_succ])
               | (go_big_quiet_op; refine hJ _ ?_; clear hJ J; try simp only [Act.put, List.setIfInBounds_toArray, List.set_cons_zero, List.set_cons_succ])))
        refine' hold_sole ?_ ?_ (fun J hJ => ?_)
        rotate_left 1
        · simp only [List.getElem?_toArray, List.getElem?_cons_zero, List.getElem?_cons_succ]; exact rfl
        · exact rfl
        go_simp
        refine (put_y (t := t) (H10.out _ hB11).2 HF.out.2.2.2.1 HF.out.2.2.2.2.2).mono ?_
        rintro e w12 ⟨rfl, hb12⟩
        have hB12 : Below w10.heap.size w10 w12 := hB11.trans (hb12.mono hB11.size)
        refine hJ _ _ hB12 ?_
        clear hJ J hb12
        try simp only [Act.put, List.setIfInBounds_toArray, List.set_cons_zero, List.set_cons_succ]
        repeat (first
            | (refine' hold_skip ?_ ?_ ?_
               rotate_left 1
               · simp only [List.getElem?_toArray, List.getElem?_cons_zero, List.getElem?_cons_succ]; exact rfl
               · exact rfl
               simp only [Act.put, List.setIfInBounds_toArray, List.set_cons_zero, List.set_cons_succ])
            | (refine' hold_want ?_ ?_ (fun J hJ => ?_)
               rotate_left 1
               · simp only [List.getElem?_toArray, List.getElem?_cons_zero, List.getElem?_cons_succ]; exact rfl
               · exact rfl
               first
               | (refine K.quiet_load_core _ rfl w.heap.size 0 _ rfl (fun w' ⟨L, hL⟩ => HXx.out _ (Hb10.out.trans ((hL ▸ L.ok : Below w10.heap.size w10 w').mono Hb10.out.size))) ?_; refine hJ _ ?_; clear hJ J; try simp only [Act.put, List.setIfInBounds_toArray, List.set_cons_zero, List.set_cons_succ])
               | (refine quiet_load_val _ rfl w9.heap.size 0 _ rfl (fun w' ⟨L, hL⟩ => (H10.out _ (hL ▸ L.ok : Below w10.heap.size w10 w')).1) ?_; refine hJ _ ?_; clear hJ J; try simp only [Act.put, List.setIfInBounds_toArray, List.set_cons_zero, List.set_cons_succ])
               | (refine quiet_conv _ rfl _ (.string tf) rfl (fun w' ⟨L, hL⟩ => Hs0.out w' (hL ▸ L.ok : Below w10.heap.size w10 w')) ?_; refine hJ _ ?_; clear hJ J; try simp only [Act.put, List.setIfInBounds_toArray, List.set_cons_zero, List.set_cons_succ])
               | (refine quiet_extract _ _ rfl _ _ rfl rfl ?_; refine hJ _ ?_; clear hJ J; try simp only [Act.put, List.setIfInBounds_toArray, List.set_cons_zero, List.set_cons_succ])
               | (go_big_quiet_op; refine hJ _ ?_; clear hJ J; try simp only [Act.put, List.setIfInBounds_toArray, List.set_cons_zero, List.set_cons_succ])))
        refine' hold_sole ?_ ?_ (fun J hJ => ?_)
        rotate_left 1
        · simp only [List.getElem?_toArray, List.getElem?_cons_zero, List.getElem?_cons_succ]; exact rfl
        · exact rfl
        go_simp
        refine (flat_z (H10.out _ hB12).2 HF.out.2.2.2.2.2).mono ?_
        rintro e w13 ⟨p13, c13, rfl, hy13, hb13⟩
        have hB13 : Below w10.heap.size w10 w13 := hB12.trans (hb13.mono hB12.size)
        have hst13 := string_at hy13
        rw [← HF.out.2.2.2.2.1, ← Htf.out] at hst13
        have hst13' : (convert 39 9 (.slice p13 l.length c13)).run Try.prog w13 = .ok (.string tf) w13 := hst13
        rw [← HF.out.2.2.2.2.1]
        refine hJ _ _ hB13 ?_
        clear hJ J hb13 hy13
        try simp only [Act.put, List.setIfInBounds_toArray, List.set_cons_zero, List.set_cons_succ]
        refine' hold_sole ?_ ?_ (fun J hJ => ?_)
        rotate_left 1
        · simp only [List.getElem?_toArray, List.getElem?_cons_zero, List.getElem?_cons_succ]; exact rfl
        · exact rfl
        unfold Oper.wp execOp
        go_simp
        try rw [hst13']
        refine hJ _ _ hB13 ?_
        clear hJ J
        try simp only [Act.put, List.setIfInBounds_toArray, List.set_cons_zero, List.set_cons_succ]
        repeat (first
            | (refine' hold_skip ?_ ?_ ?_
               rotate_left 1
               · simp only [List.getElem?_toArray, List.getElem?_cons_zero, List.getElem?_cons_succ]; exact rfl
               · exact rfl
               simp only [Act.put, List.setIfInBounds_toArray, List.set_cons_zero, List.set_cons_succ])
            | (refine' hold_want ?_ ?_ (fun J hJ => ?_)
               rotate_left 1
               · simp only [List.getElem?_toArray, List.getElem?_cons_zero, List.getElem?_cons_succ]; exact rfl
               · exact rfl
               first
               | (refine K.quiet_load_core _ rfl w.heap.size 0 _ rfl (fun w' ⟨L, hL⟩ => HXx.out _ (Hb10.out.trans ((hL ▸ L.ok : Below w10.heap.size w10 w').mono Hb10.out.size))) ?_; refine hJ _ ?_; clear hJ J; try simp only [Act.put, List.setIfInBounds_toArray, List.set_cons_zero, List.set_cons_succ])
               | (refine quiet_load_val _ rfl w9.heap.size 0 _ rfl (fun w' ⟨L, hL⟩ => (H10.out _ (hL ▸ L.ok : Below w10.heap.size w10 w')).1) ?_; refine hJ _ ?_; clear hJ J; try simp only [Act.put, List.setIfInBounds_toArray, List.set_cons_zero, List.set_cons_succ])
               | (refine quiet_conv _ rfl _ (.string tf) rfl (fun w' ⟨L, hL⟩ => Hs0.out w' (hL ▸ L.ok : Below w10.heap.size w10 w')) ?_; refine hJ _ ?_; clear hJ J; try simp only [Act.put, List.setIfInBounds_toArray, List.set_cons_zero, List.set_cons_succ])
               | (refine quiet_extract _ _ rfl _ _ rfl rfl ?_; refine hJ _ ?_; clear hJ J; try simp only [Act.put, List.setIfInBounds_toArray, List.set_cons_zero, List.set_cons_succ])
               | (go_big_quiet_op; refine hJ _ ?_; clear hJ J; try simp only [Act.put, List.setIfInBounds_toArray, List.set_cons_zero, List.set_cons_succ])))
        refine hold_done ?_
        refine hMet _ _ (Met.intro (hR _ _ ?_))
        exact ⟨_, _, _, _, _, _, _, _, _, _, _, _, _, _, _, _, _, _, _, _, _, _, ⟨rfl, hB13⟩, rfl⟩
      · have hcode : e1 = 1 ∨ e1 = 7 := by have := resG_code x (nats t) l; rw [← he1] at this; exact this.resolve_left hz
        clear hz hu1 he1 He1 Hu1
        rcases hcode with rfl | rfl
        · refine wp_region_hold (fun w' => Below w10.heap.size w10 w') (.plain 0 (.plain 1 (.plain 2 (.plain 3 (.plain 4 (.sole 5 (.plain 6 (.plain 7 (.plain 9 (.sole 8 (.plain 10 (.plain 11 (.plain 12 (.plain 13 (.plain 16 (.plain 17 (.sole 14 (.sole 15 (.plain 18 (.plain 19 (.plain 20 (.plain 21 .done)))))))))))))))))))))) (by rw [← hwd]; exact hBd) (by kernel_rfl) (by kernel_rfl) (fun c a d v w h => by cases d <;> exact h) ?_
          rw [← hwd]
          clear hwd
          repeat (first
              | (refine' hold_skip ?_ ?_ ?_
                 rotate_left 1
                 · simp only [List.getElem?_toArray, List.getElem?_cons_zero, List.getElem?_cons_succ]; exact rfl
                 · exact rfl
                 simp only [Act.put, List.setIfInBounds_toArray, List.set_cons_zero, List.set_cons_succ])
              | (refine' hold_want ?_ ?_ (fun J hJ => ?_)
                 rotate_left 1
                 · simp only [List.getElem?_toArray, List.getElem?_cons_zero, List.getElem?_cons_succ]; exact rfl
                 · exact rfl
                 first
                 | (refine K.quiet_load_core _ rfl w.heap.size 0 _ rfl (fun w' ⟨L, hL⟩ => HXx.out _ (Hb10.out.trans ((hL ▸ L.ok : Below w10.heap.size w10 w').mono Hb10.out.size))) ?_; refine hJ _ ?_; clear hJ J; try simp only [Act.put, List.setIfInBounds_toArray, List.set_cons_zero, List.set_cons_succ])
                 | (refine quiet_load_val _ rfl w9.heap.size 0 _ rfl (fun w' ⟨L, hL⟩ => (H10.out _ (hL ▸ L.ok : Below w10.heap.size w10 w')).1) ?_; refine hJ _ ?_; clear hJ J; try simp only [Act.put, List.setIfInBounds_toArray, List.set_cons_zero, List.set_cons_succ])
                 | (refine quiet_conv _ rfl _ (.string tf) rfl (fun w' ⟨L, hL⟩ => Hs0.out w' (hL ▸ L.ok : Below w10.heap.size w10 w')) ?_; refine hJ _ ?_; clear hJ J; try simp only [Act.put, List.setIfInBounds_toArray, List.set_cons_zero, List.set_cons_succ])
                 | (refine quiet_extract _ _ rfl _ _ rfl rfl ?_; refine hJ _ ?_; clear hJ J; try simp only [Act.put, List.setIfInBounds_toArray, List.set_cons_zero, List.set_cons_succ])
                 | (go_big_quiet_op; refine hJ _ ?_; clear hJ J; try simp only [Act.put, List.setIfInBounds_toArray, List.set_cons_zero, List.set_cons_succ])))
          refine' hold_sole_skip ?_ ?_ ?_
          rotate_left 1
          · simp only [List.getElem?_toArray, List.getElem?_cons_zero, List.getElem?_cons_succ]; exact rfl
          · exact rfl
          try simp only [Act.put, List.setIfInBounds_toArray, List.set_cons_zero, List.set_cons_succ]
          repeat (first
              | (refine' hold_skip ?_ ?_ ?_
                 rotate_left 1
                 · simp only [List.getElem?_toArray, List.getElem?_cons_zero, List.getElem?_cons_succ]; exact rfl
                 · exact rfl
                 simp only [Act.put, List.setIfInBounds_toArray, List.set_cons_zero, List.set_cons_succ])
              | (refine' hold_want ?_ ?_ (fun J hJ => ?_)
                 rotate_left 1
                 · simp only [List.getElem?_toArray, List.getElem?_cons_zero, List.getElem?_cons_succ]; exact rfl
                 · exact rfl
                 first
                 | (refine K.quiet_load_core _ rfl w.heap.size 0 _ rfl (fun w' ⟨L, hL⟩ => HXx.out _ (Hb10.out.trans ((hL ▸ L.ok : Below w10.heap.size w10 w').mono Hb10.out.size))) ?_; refine hJ _ ?_; clear hJ J; try simp only [Act.put, List.setIfInBounds_toArray, List.set_cons_zero, List.set_cons_succ])
                 | (refine quiet_load_val _ rfl w9.heap.size 0 _ rfl (fun w' ⟨L, hL⟩ => (H10.out _ (hL ▸ L.ok : Below w10.heap.size w10 w')).1) ?_; refine hJ _ ?_; clear hJ J; try simp only [Act.put, List.setIfInBounds_toArray, List.set_cons_zero, List.set_cons_succ])
                 | (refine quiet_conv _ rfl _ (.string tf) rfl (fun w' ⟨L, hL⟩ => Hs0.out w' (hL ▸ L.ok : Below w10.heap.size w10 w')) ?_; refine hJ _ ?_; clear hJ J; try simp only [Act.put, List.setIfInBounds_toArray, List.set_cons_zero, List.set_cons_succ])
                 | (refine quiet_extract _ _ rfl _ _ rfl rfl ?_; refine hJ _ ?_; clear hJ J; try simp only [Act.put, List.setIfInBounds_toArray, List.set_cons_zero, List.set_cons_succ])
                 | (go_big_quiet_op; refine hJ _ ?_; clear hJ J; try simp only [Act.put, List.setIfInBounds_toArray, List.set_cons_zero, List.set_cons_succ])))
          refine' hold_sole_skip ?_ ?_ ?_
          rotate_left 1
          · simp only [List.getElem?_toArray, List.getElem?_cons_zero, List.getElem?_cons_succ]; exact rfl
          · exact rfl
          try simp only [Act.put, List.setIfInBounds_toArray, List.set_cons_zero, List.set_cons_succ]
          repeat (first
              | (refine' hold_skip ?_ ?_ ?_
                 rotate_left 1
                 · simp only [List.getElem?_toArray, List.getElem?_cons_zero, List.getElem?_cons_succ]; exact rfl
                 · exact rfl
                 simp only [Act.put, List.setIfInBounds_toArray, List.set_cons_zero, List.set_cons_succ])
              | (refine' hold_want ?_ ?_ (fun J hJ => ?_)
                 rotate_left 1
                 · simp only [List.getElem?_toArray, List.getElem?_cons_zero, List.getElem?_cons_succ]; exact rfl
                 · exact rfl
                 first
                 | (refine K.quiet_load_core _ rfl w.heap.size 0 _ rfl (fun w' ⟨L, hL⟩ => HXx.out _ (Hb10.out.trans ((hL ▸ L.ok : Below w10.heap.size w10 w').mono Hb10.out.size))) ?_; refine hJ _ ?_; clear hJ J; try simp only [Act.put, List.setIfInBounds_toArray, List.set_cons_zero, List.set_cons_succ])
                 | (refine quiet_load_val _ rfl w9.heap.size 0 _ rfl (fun w' ⟨L, hL⟩ => (H10.out _ (hL ▸ L.ok : Below w10.heap.size w10 w')).1) ?_; refine hJ _ ?_; clear hJ J; try simp only [Act.put, List.setIfInBounds_toArray, List.set_cons_zero, List.set_cons_succ])
                 | (refine quiet_conv _ rfl _ (.string tf) rfl (fun w' ⟨L, hL⟩ => Hs0.out w' (hL ▸ L.ok : Below w10.heap.size w10 w')) ?_; refine hJ _ ?_; clear hJ J; try simp only [Act.put, List.setIfInBounds_toArray, List.set_cons_zero, List.set_cons_succ])
                 | (refine quiet_extract _ _ rfl _ _ rfl rfl ?_; refine hJ _ ?_; clear hJ J; try simp only [Act.put, List.setIfInBounds_toArray, List.set_cons_zero, List.set_cons_succ])
                 | (go_big_quiet_op; refine hJ _ ?_; clear hJ J; try simp only [Act.put, List.setIfInBounds_toArray, List.set_cons_zero, List.set_cons_succ])))
          refine' hold_sole_skip ?_ ?_ ?_
          rotate_left 1
          · simp only [List.getElem?_toArray, List.getElem?_cons_zero, List.getElem?_cons_succ]; exact rfl
          · exact rfl
          try simp only [Act.put, List.setIfInBounds_toArray, List.set_cons_zero, List.set_cons_succ]
          refine' hold_sole_skip ?_ ?_ ?_
          rotate_left 1
          · simp only [List.getElem?_toArray, List.getElem?_cons_zero, List.getElem?_cons_succ]; exact rfl
          · exact rfl
          try simp only [Act.put, List.setIfInBounds_toArray, List.set_cons_zero, List.set_cons_succ]
          repeat (first
              | (refine' hold_skip ?_ ?_ ?_
                 rotate_left 1
                 · simp only [List.getElem?_toArray, List.getElem?_cons_zero, List.getElem?_cons_succ]; exact rfl
                 · exact rfl
                 simp only [Act.put, List.setIfInBounds_toArray, List.set_cons_zero, List.set_cons_succ])
              | (refine' hold_want ?_ ?_ (fun J hJ => ?_)
                 rotate_left 1
                 · simp only [List.getElem?_toArray, List.getElem?_cons_zero, List.getElem?_cons_succ]; exact rfl
                 · exact rfl
                 first
                 | (refine K.quiet_load_core _ rfl w.heap.size 0 _ rfl (fun w' ⟨L, hL⟩ => HXx.out _ (Hb10.out.trans ((hL ▸ L.ok : Below w10.heap.size w10 w').mono Hb10.out.size))) ?_; refine hJ _ ?_; clear hJ J; try simp only [Act.put, List.setIfInBounds_toArray, List.set_cons_zero, List.set_cons_succ])
                 | (refine quiet_load_val _ rfl w9.heap.size 0 _ rfl (fun w' ⟨L, hL⟩ => (H10.out _ (hL ▸ L.ok : Below w10.heap.size w10 w')).1) ?_; refine hJ _ ?_; clear hJ J; try simp only [Act.put, List.setIfInBounds_toArray, List.set_cons_zero, List.set_cons_succ])
                 | (refine quiet_conv _ rfl _ (.string tf) rfl (fun w' ⟨L, hL⟩ => Hs0.out w' (hL ▸ L.ok : Below w10.heap.size w10 w')) ?_; refine hJ _ ?_; clear hJ J; try simp only [Act.put, List.setIfInBounds_toArray, List.set_cons_zero, List.set_cons_succ])
                 | (refine quiet_extract _ _ rfl _ _ rfl rfl ?_; refine hJ _ ?_; clear hJ J; try simp only [Act.put, List.setIfInBounds_toArray, List.set_cons_zero, List.set_cons_succ])
                 | (go_big_quiet_op; refine hJ _ ?_; clear hJ J; try simp only [Act.put, List.setIfInBounds_toArray, List.set_cons_zero, List.set_cons_succ])))
          refine hold_done ?_
          refine hMet _ _ (Met.intro (hR _ _ ?_))
          exact ⟨_, _, _, _, _, _, _, _, _, _, _, _, _, _, _, _, _, _, _, _, _, _, ⟨rfl, hBd⟩, rfl⟩

        · refine wp_region_hold (fun w' => Below w10.heap.size w10 w') (.plain 0 (.plain 1 (.plain 2 (.plain 3 (.plain 4 (.sole 5 (.plain 6 (.plain 7 (.plain 9 (.sole 8 (.plain 10 (.plain 11 (.plain 12 (.plain 13 (.plain 16 (.plain 17 (.sole 14 (.sole 15 (.plain 18 (.plain 19 (.plain 20 (.plain 21 .done)))))))))))))))))))))) (by rw [← hwd]; exact hBd) (by kernel_rfl) (by kernel_rfl) (fun c a d v w h => by cases d <;> exact h) ?_
          rw [← hwd]
          clear hwd
          repeat (first
              | (refine' hold_skip ?_ ?_ ?_
                 rotate_left 1
                 · simp only [List.getElem?_toArray, List.getElem?_cons_zero, List.getElem?_cons_succ]; exact rfl
                 · exact rfl
                 simp only [Act.put, List.setIfInBounds_toArray, List.set_cons_zero, List.set_cons_succ])
              | (refine' hold_want ?_ ?_ (fun J hJ => ?_)
                 rotate_left 1
                 · simp only [List.getElem?_toArray, List.getElem?_cons_zero, List.getElem?_cons_succ]; exact rfl
                 · exact rfl
                 first
                 | (refine K.quiet_load_core _ rfl w.heap.size 0 _ rfl (fun w' ⟨L, hL⟩ => HXx.out _ (Hb10.out.trans ((hL ▸ L.ok : Below w10.heap.size w10 w').mono Hb10.out.size))) ?_; refine hJ _ ?_; clear hJ J; try simp only [Act.put, List.setIfInBounds_toArray, List.set_cons_zero, List.set_cons_succ])
                 | (refine quiet_load_val _ rfl w9.heap.size 0 _ rfl (fun w' ⟨L, hL⟩ => (H10.out _ (hL ▸ L.ok : Below w10.heap.size w10 w')).1) ?_; refine hJ _ ?_; clear hJ J; try simp only [Act.put, List.setIfInBounds_toArray, List.set_cons_zero, List.set_cons_succ])
                 | (refine quiet_conv _ rfl _ (.string tf) rfl (fun w' ⟨L, hL⟩ => Hs0.out w' (hL ▸ L.ok : Below w10.heap.size w10 w')) ?_; refine hJ _ ?_; clear hJ J; try simp only [Act.put, List.setIfInBounds_toArray, List.set_cons_zero, List.set_cons_succ])
                 | (refine quiet_extract _ _ rfl _ _ rfl rfl ?_; refine hJ _ ?_; clear hJ J; try simp only [Act.put, List.setIfInBounds_toArray, List.set_cons_zero, List.set_cons_succ])
                 | (go_big_quiet_op; refine hJ _ ?_; clear hJ J; try simp only [Act.put, List.setIfInBounds_toArray, List.set_cons_zero, List.set_cons_succ])))
          refine' hold_sole_skip ?_ ?_ ?_
          rotate_left 1
          · simp only [List.getElem?_toArray, List.getElem?_cons_zero, List.getElem?_cons_succ]; exact rfl
          · exact rfl
          try simp only [Act.put, List.setIfInBounds_toArray, List.set_cons_zero, List.set_cons_succ]
          repeat (first
              | (refine' hold_skip ?_ ?_ ?_
                 rotate_left 1
                 · simp only [List.getElem?_toArray, List.getElem?_cons_zero, List.getElem?_cons_succ]; exact rfl
                 · exact rfl
                 simp only [Act.put, List.setIfInBounds_toArray, List.set_cons_zero, List.set_cons_succ])
              | (refine' hold_want ?_ ?_ (fun J hJ => ?_)
                 rotate_left 1
                 · simp only [List.getElem?_toArray, List.getElem?_cons_zero, List.getElem?_cons_succ]; exact rfl
                 · exact rfl
                 first
                 | (refine K.quiet_load_core _ rfl w.heap.size 0 _ rfl (fun w' ⟨L, hL⟩ => HXx.out _ (Hb10.out.trans ((hL ▸ L.ok : Below w10.heap.size w10 w').mono Hb10.out.size))) ?_; refine hJ _ ?_; clear hJ J; try simp only [Act.put, List.setIfInBounds_toArray, List.set_cons_zero, List.set_cons_succ])
                 | (refine quiet_load_val _ rfl w9.heap.size 0 _ rfl (fun w' ⟨L, hL⟩ => (H10.out _ (hL ▸ L.ok : Below w10.heap.size w10 w')).1) ?_; refine hJ _ ?_; clear hJ J; try simp only [Act.put, List.setIfInBounds_toArray, List.set_cons_zero, List.set_cons_succ])
                 | (refine quiet_conv _ rfl _ (.string tf) rfl (fun w' ⟨L, hL⟩ => Hs0.out w' (hL ▸ L.ok : Below w10.heap.size w10 w')) ?_; refine hJ _ ?_; clear hJ J; try simp only [Act.put, List.setIfInBounds_toArray, List.set_cons_zero, List.set_cons_succ])
                 | (refine quiet_extract _ _ rfl _ _ rfl rfl ?_; refine hJ _ ?_; clear hJ J; try simp only [Act.put, List.setIfInBounds_toArray, List.set_cons_zero, List.set_cons_succ])
                 | (go_big_quiet_op; refine hJ _ ?_; clear hJ J; try simp only [Act.put, List.setIfInBounds_toArray, List.set_cons_zero, List.set_cons_succ])))
          refine' hold_sole_skip ?_ ?_ ?_
          rotate_left 1
          · simp only [List.getElem?_toArray, List.getElem?_cons_zero, List.getElem?_cons_succ]; exact rfl
          · exact rfl
          try simp only [Act.put, List.setIfInBounds_toArray, List.set_cons_zero, List.set_cons_succ]
          repeat (first
              | (refine' hold_skip ?_ ?_ ?_
                 rotate_left 1
                 · simp only [List.getElem?_toArray, List.getElem?_cons_zero, List.getElem?_cons_succ]; exact rfl
                 · exact rfl
                 simp only [Act.put, List.setIfInBounds_toArray, List.set_cons_zero, List.set_cons_succ])
              | (refine' hold_want ?_ ?_ (fun J hJ => ?_)
                 rotate_left 1
                 · simp only [List.getElem?_toArray, List.getElem?_cons_zero, List.getElem?_cons_succ]; exact rfl
                 · exact rfl
                 first
                 | (refine K.quiet_load_core _ rfl w.heap.size 0 _ rfl (fun w' ⟨L, hL⟩ => HXx.out _ (Hb10.out.trans ((hL ▸ L.ok : Below w10.heap.size w10 w').mono Hb10.out.size))) ?_; refine hJ _ ?_; clear hJ J; try simp only [Act.put, List.setIfInBounds_toArray, List.set_cons_zero, List.set_cons_succ])
                 | (refine quiet_load_val _ rfl w9.heap.size 0 _ rfl (fun w' ⟨L, hL⟩ => (H10.out _ (hL ▸ L.ok : Below w10.heap.size w10 w')).1) ?_; refine hJ _ ?_; clear hJ J; try simp only [Act.put, List.setIfInBounds_toArray, List.set_cons_zero, List.set_cons_succ])
                 | (refine quiet_conv _ rfl _ (.string tf) rfl (fun w' ⟨L, hL⟩ => Hs0.out w' (hL ▸ L.ok : Below w10.heap.size w10 w')) ?_; refine hJ _ ?_; clear hJ J; try simp only [Act.put, List.setIfInBounds_toArray, List.set_cons_zero, List.set_cons_succ])
                 | (refine quiet_extract _ _ rfl _ _ rfl rfl ?_; refine hJ _ ?_; clear hJ J; try simp only [Act.put, List.setIfInBounds_toArray, List.set_cons_zero, List.set_cons_succ])
                 | (go_big_quiet_op; refine hJ _ ?_; clear hJ J; try simp only [Act.put, List.setIfInBounds_toArray, List.set_cons_zero, List.set_cons_succ])))
          refine' hold_sole_skip ?_ ?_ ?_
          rotate_left 1
          · simp only [List.getElem?_toArray, List.getElem?_cons_zero, List.getElem?_cons_succ]; exact rfl
          · exact rfl
          try simp only [Act.put, List.setIfInBounds_toArray, List.set_cons_zero, List.set_cons_succ]
          refine' hold_sole_skip ?_ ?_ ?_
          rotate_left 1
          · simp only [List.getElem?_toArray, List.getElem?_cons_zero, List.getElem?_cons_succ]; exact rfl
          · exact rfl
          try simp only [Act.put, List.setIfInBounds_toArray, List.set_cons_zero, List.set_cons_succ]
          repeat (first
              | (refine' hold_skip ?_ ?_ ?_
                 rotate_left 1
                 · simp only [List.getElem?_toArray, List.getElem?_cons_zero, List.getElem?_cons_succ]; exact rfl
                 · exact rfl
                 simp only [Act.put, List.setIfInBounds_toArray, List.set_cons_zero, List.set_cons_succ])
              | (refine' hold_want ?_ ?_ (fun J hJ => ?_)
                 rotate_left 1
                 · simp only [List.getElem?_toArray, List.getElem?_cons_zero, List.getElem?_cons_succ]; exact rfl
                 · exact rfl
                 first
                 | (refine K.quiet_load_core _ rfl w.heap.size 0 _ rfl (fun w' ⟨L, hL⟩ => HXx.out _ (Hb10.out.trans ((hL ▸ L.ok : Below w10.heap.size w10 w').mono Hb10.out.size))) ?_; refine hJ _ ?_; clear hJ J; try simp only [Act.put, List.setIfInBounds_toArray, List.set_cons_zero, List.set_cons_succ])
                 | (refine quiet_load_val _ rfl w9.heap.size 0 _ rfl (fun w' ⟨L, hL⟩ => (H10.out _ (hL ▸ L.ok : Below w10.heap.size w10 w')).1) ?_; refine hJ _ ?_; clear hJ J; try simp only [Act.put, List.setIfInBounds_toArray, List.set_cons_zero, List.set_cons_succ])
                 | (refine quiet_conv _ rfl _ (.string tf) rfl (fun w' ⟨L, hL⟩ => Hs0.out w' (hL ▸ L.ok : Below w10.heap.size w10 w')) ?_; refine hJ _ ?_; clear hJ J; try simp only [Act.put, List.setIfInBounds_toArray, List.set_cons_zero, List.set_cons_succ])
                 | (refine quiet_extract _ _ rfl _ _ rfl rfl ?_; refine hJ _ ?_; clear hJ J; try simp only [Act.put, List.setIfInBounds_toArray, List.set_cons_zero, List.set_cons_succ])
                 | (go_big_quiet_op; refine hJ _ ?_; clear hJ J; try simp only [Act.put, List.setIfInBounds_toArray, List.set_cons_zero, List.set_cons_succ])))
          refine hold_done ?_
          refine hMet _ _ (Met.intro (hR _ _ ?_))
          exact ⟨_, _, _, _, _, _, _, _, _, _, _, _, _, _, _, _, _, _, _, _, _, _, ⟨rfl, hBd⟩, rfl⟩

    case rest =>
      obtain ⟨rfl, hBc⟩ := hcut
      have Hfin := Lib.hid (HbW.out.trans ((Hb10.out.trans (hBc.mono Hb10.out.size)).mono HbW.out.size))
      clear hBc
      go_wp2_with fail
      go_ret
      exact ⟨rfl, Hfin.out⟩

  rw [Bool.and_eq_true, Bool.and_eq_true] at hf
  obtain ⟨⟨hgood, hbel⟩, hfull⟩ := hf
  obtain ⟨tv, htv⟩ : ∃ tv : ByteArray, nats tv = v.put := ⟨⟨(toBytes v.put).toArray⟩, nats_bytes (put_byte v)⟩
  have hsz : tv.size ≤ 9223372036854775807 := by have := put_le v; have := Hsv.out; rw [← nats_length, htv]; omega
  have hres : resG x (nats tv) v.flat = (v, 0) := by rw [htv]; exact resG_back hgood hbel hfull (by have := C1H.out; have := HLf.out; omega)
  have Htv := Lib.hid (And.intro htv (And.intro hsz hres))
  clear hgood hbel hfull htv hsz hres
  go_upto_region 6 with fail
  go_cut [9, 10] from 39 to 47 (fun v9 v10 wx => ∃ (b9 : Nat) (k : Int) (a : Option Addr) (len cap : Nat) (zz : Nat), v9 = .pointer (some ⟨b9, 0, none⟩) ∧ v10 = .int .i64 0 ∧ Val3 wx b9 0 [.int .i64 k, .int .u8 zz, .slice a len cap] ∧ Vl.at wx v [.int .i64 k, .int .u8 zz, .slice a len cap] ∧ Below w5.heap.size w5 wx)
  case first =>
    rename_i J K' hR hMet
    obtain ⟨wd, hwd⟩ : ∃ wd, wd = w5.drew := ⟨_, rfl⟩
    have hBd : Below w5.heap.size w5 wd := by rw [hwd]; exact (Below.refl _ _).drew
    have hNE := HeldW.nonempty (S := fun w' => Below w5.heap.size w5 w') hBd
    refine wp_region_hold (fun w' => Below w5.heap.size w5 w') (.plain 0 (.plain 1 (.plain 3 (.fork 2 (.fork 4 (.fork 5 (.plain 6 (.plain 7 (.plain 8 (.sole 9 (.sole 10 (.plain 11 .done)))))) 9 (.sole 5 (.plain 6 (.plain 7 (.plain 8 (.sole 10 (.plain 11 .done))))))) 9 (.sole 4 (.sole 5 (.plain 6 (.plain 7 (.plain 8 (.sole 10 (.plain 11 .done)))))))) 9 (.sole 2 (.sole 4 (.sole 5 (.plain 6 (.plain 7 (.plain 8 (.sole 10 (.plain 11 .done)))))))))))) (by rw [← hwd]; exact hBd) (by kernel_rfl) (by kernel_rfl) (fun c a d v w h => by cases d <;> exact h) ?_
    rw [← hwd]
    clear hwd
    repeat (first
        | (refine' hold_skip ?_ ?_ ?_
           rotate_left 1
           · simp only [List.getElem?_toArray, List.getElem?_cons_zero, List.getElem?_cons_succ]; exact rfl
           · exact rfl
           simp only [Act.put, List.setIfInBounds_toArray, List.set_cons_zero, List.set_cons_succ])
        | (refine' hold_want ?_ ?_ (fun J hJ => ?_)
           rotate_left 1
           · simp only [List.getElem?_toArray, List.getElem?_cons_zero, List.getElem?_cons_succ]; exact rfl
           · exact rfl
           first
           | (refine K.quiet_load_core _ rfl w.heap.size 0 _ rfl (fun w' ⟨L, hL⟩ => HXx.out _ (Hb5.out.trans ((hL ▸ L.ok : Below w5.heap.size w5 w').mono Hb5.out.size))) ?_; refine hJ _ ?_; clear hJ J; try simp only [Act.put, List.setIfInBounds_toArray, List.set_cons_zero, List.set_cons_succ])
           | (refine quiet_load_val _ rfl (w.heap.size + 1) 0 _ rfl (fun w' ⟨L, hL⟩ => HXv.out _ (Hb5.out.trans ((hL ▸ L.ok : Below w5.heap.size w5 w').mono Hb5.out.size))) ?_; refine hJ _ ?_; clear hJ J; try simp only [Act.put, List.setIfInBounds_toArray, List.set_cons_zero, List.set_cons_succ])
           | (refine quiet_extract _ _ rfl _ _ rfl rfl ?_; refine hJ _ ?_; clear hJ J; try simp only [Act.put, List.setIfInBounds_toArray, List.set_cons_zero, List.set_cons_succ])
           | (go_big_quiet_op; refine hJ _ ?_; clear hJ J; try simp only [Act.put, List.setIfInBounds_toArray, List.set_cons_zero, List.set_cons_succ])))
    refine hold_fork ?_ ?_
    · refine' hold_step ?_ ?_ (fun J hJ => ?_)
      rotate_left 1
      · simp only [List.getElem?_toArray, List.getElem?_cons_zero, List.getElem?_cons_succ]; exact rfl
      · exact rfl
      go_simp
      refine (put_y (t := tv) (HAv.out _ (Hb5.out.trans (hBd.mono Hb5.out.size))) Htv.out.1 Hsv.out).mono ?_
      rintro e w6 ⟨rfl, hb6⟩
      have hB6 : Below w5.heap.size w5 w6 := hBd.trans (hb6.mono hBd.size)
      refine hJ _ _ hB6 ?_
      clear hJ J hb6
      try simp only [Act.put, List.setIfInBounds_toArray, List.set_cons_zero, List.set_cons_succ]
      refine hold_fork ?_ ?_
      · refine' hold_step ?_ ?_ (fun J hJ => ?_)
        rotate_left 1
        · simp only [List.getElem?_toArray, List.getElem?_cons_zero, List.getElem?_cons_succ]; exact rfl
        · exact rfl
        go_simp
        refine (flat_z (HAv.out _ (Hb5.out.trans (hB6.mono Hb5.out.size))) Hsv.out).mono ?_
        rintro e w7 ⟨p7, c7, rfl, hy7, hb7⟩
        have hB7 : Below w5.heap.size w5 w7 := hB6.trans (hb7.mono hB6.size)
        refine hJ _ _ hB7 ?_
        clear hJ J hb7
        try simp only [Act.put, List.setIfInBounds_toArray, List.set_cons_zero, List.set_cons_succ]
        refine hold_fork ?_ ?_
        · refine' hold_step ?_ ?_ (fun J hJ => ?_)
          rotate_left 1
          · simp only [List.getElem?_toArray, List.getElem?_cons_zero, List.getElem?_cons_succ]; exact rfl
          · exact rfl
          go_simp
          refine (get_any (HAx.out _ (Hb5.out.trans (hB7.mono Hb5.out.size))) hy7 Htv.out.2.1).mono ?_
          rintro e w8 ⟨k8, z8, a8, len8, cap8, rfl, hv8, hb8⟩
          rw [Htv.out.2.2] at hv8 ⊢
          have hB8 : Below w5.heap.size w5 w8 := hB7.trans (hb8.mono hB7.size)
          have hB8y := bytes_keep hy7 hb8
          refine hJ _ _ hB8 ?_
          clear hJ J hb8
          try simp only []
          repeat (first
              | (refine' hold_skip ?_ ?_ ?_
                 rotate_left 1
                 · simp only [List.getElem?_toArray, List.getElem?_cons_zero, List.getElem?_cons_succ]; exact rfl
                 · exact rfl
                 simp only [Act.put, List.setIfInBounds_toArray, List.set_cons_zero, List.set_cons_succ])
              | (refine' hold_want ?_ ?_ (fun J hJ => ?_)
                 rotate_left 1
                 · simp only [List.getElem?_toArray, List.getElem?_cons_zero, List.getElem?_cons_succ]; exact rfl
                 · exact rfl
                 first
                 | (refine K.quiet_load_core _ rfl w.heap.size 0 _ rfl (fun w' ⟨L, hL⟩ => HXx.out _ (Hb5.out.trans ((hL ▸ L.ok : Below w5.heap.size w5 w').mono Hb5.out.size))) ?_; refine hJ _ ?_; clear hJ J; try simp only [Act.put, List.setIfInBounds_toArray, List.set_cons_zero, List.set_cons_succ])
                 | (refine quiet_load_val _ rfl (w.heap.size + 1) 0 _ rfl (fun w' ⟨L, hL⟩ => HXv.out _ (Hb5.out.trans ((hL ▸ L.ok : Below w5.heap.size w5 w').mono Hb5.out.size))) ?_; refine hJ _ ?_; clear hJ J; try simp only [Act.put, List.setIfInBounds_toArray, List.set_cons_zero, List.set_cons_succ])
                 | (refine quiet_extract _ _ rfl _ _ rfl rfl ?_; refine hJ _ ?_; clear hJ J; try simp only [Act.put, List.setIfInBounds_toArray, List.set_cons_zero, List.set_cons_succ])
                 | (go_big_quiet_op; refine hJ _ ?_; clear hJ J; try simp only [Act.put, List.setIfInBounds_toArray, List.set_cons_zero, List.set_cons_succ])))
          refine' hold_sole ?_ ?_ (fun J hJ => ?_)
          rotate_left 1
          · simp only [List.getElem?_toArray, List.getElem?_cons_zero, List.getElem?_cons_succ]; exact rfl
          · exact rfl
          unfold Oper.wp execOp
          go_simp
          obtain ⟨wa, hwa⟩ : ∃ wa, wa = w8.alloc (.cells #[.int .i64 0, .int .u8 0, .slice none 0 0] 35) := ⟨_, rfl⟩
          rw [← hwa]
          have hba : Below w8.heap.size w8 wa := by rw [hwa]; exact K.alloc_below _ _
          have hza : ValIn wa w8.heap.size #[.int .i64 0, .int .u8 0, .slice none 0 0] := by rw [hwa]; exact World.alloc_heap_new _ _
          have hBa : Below w5.heap.size w5 wa := hB8.trans (hba.mono hB8.size)
          have hBay := bytes_keep hB8y hba
          have hva := Vl.at_below hba (Nat.le_refl _) _ _ hv8.at
          refine hJ _ _ hBa ?_
          clear hJ J hwa
          try simp only [Act.put, List.setIfInBounds_toArray, List.set_cons_zero, List.set_cons_succ]
          refine' hold_sole ?_ ?_ (fun J hJ => ?_)
          rotate_left 1
          · simp only [List.getElem?_toArray, List.getElem?_cons_zero, List.getElem?_cons_succ]; exact rfl
          · exact rfl
          refine wp_store_val _ _ rfl w8.heap.size _ #[.int .i64 k8, .int .u8 z8, .slice a8 len8 cap8] rfl rfl hza rfl rfl (by simp [Value.oneCell']) ?_
          intro ws hns hos
          have hBs : Below w5.heap.size w5 ws := hos.below hBa (by first | exact Nat.le_refl _ | exact hB8.size)
          have hvs : Vl.at ws v [.int .i64 k8, .int .u8 z8, .slice a8 len8 cap8] := Vl.at_below (hos.below hba (Nat.le_refl _)) (Nat.le_refl _) _ _ hv8.at
          have h3s := val3_in (cs := [.int .i64 k8, .int .u8 z8, .slice a8 len8 cap8]) hns rfl
          refine hJ _ _ hBs ?_
          clear hJ J
          try simp only [Act.put]
          repeat (first
              | (refine' hold_skip ?_ ?_ ?_
                 rotate_left 1
                 · simp only [List.getElem?_toArray, List.getElem?_cons_zero, List.getElem?_cons_succ]; exact rfl
                 · exact rfl
                 simp only [Act.put, List.setIfInBounds_toArray, List.set_cons_zero, List.set_cons_succ])
              | (refine' hold_want ?_ ?_ (fun J hJ => ?_)
                 rotate_left 1
                 · simp only [List.getElem?_toArray, List.getElem?_cons_zero, List.getElem?_cons_succ]; exact rfl
                 · exact rfl
                 first
                 | (refine K.quiet_load_core _ rfl w.heap.size 0 _ rfl (fun w' ⟨L, hL⟩ => HXx.out _ (Hb5.out.trans ((hL ▸ L.ok : Below w5.heap.size w5 w').mono Hb5.out.size))) ?_; refine hJ _ ?_; clear hJ J; try simp only [Act.put, List.setIfInBounds_toArray, List.set_cons_zero, List.set_cons_succ])
                 | (refine quiet_load_val _ rfl (w.heap.size + 1) 0 _ rfl (fun w' ⟨L, hL⟩ => HXv.out _ (Hb5.out.trans ((hL ▸ L.ok : Below w5.heap.size w5 w').mono Hb5.out.size))) ?_; refine hJ _ ?_; clear hJ J; try simp only [Act.put, List.setIfInBounds_toArray, List.set_cons_zero, List.set_cons_succ])
                 | (refine quiet_extract _ _ rfl _ _ rfl rfl ?_; refine hJ _ ?_; clear hJ J; try simp only [Act.put, List.setIfInBounds_toArray, List.set_cons_zero, List.set_cons_succ])
                 | (go_big_quiet_op; refine hJ _ ?_; clear hJ J; try simp only [Act.put, List.setIfInBounds_toArray, List.set_cons_zero, List.set_cons_succ])))
          refine hold_done ?_
          refine hMet _ _ (Met.intro (hR _ _ ?_))
          exact ⟨_, _, _, _, _, _, _, _, _, _, _, ⟨w8.heap.size, k8, a8, len8, cap8, z8, rfl, rfl, h3s, hvs, hBs⟩, rfl⟩

        · refine' hold_step ?_ ?_ (fun J hJ => ?_)
          rotate_left 1
          · simp only [List.getElem?_toArray, List.getElem?_cons_zero, List.getElem?_cons_succ]; exact rfl
          · exact rfl
          unfold Oper.wp execOp
          go_simp
          obtain ⟨wa, hwa⟩ : ∃ wa, wa = w7.alloc (.cells #[.int .i64 0, .int .u8 0, .slice none 0 0] 35) := ⟨_, rfl⟩
          rw [← hwa]
          have hba : Below w7.heap.size w7 wa := by rw [hwa]; exact K.alloc_below _ _
          have hza : ValIn wa w7.heap.size #[.int .i64 0, .int .u8 0, .slice none 0 0] := by rw [hwa]; exact World.alloc_heap_new _ _
          have hBa : Below w5.heap.size w5 wa := hB7.trans (hba.mono hB7.size)
          have hBay := bytes_keep hy7 hba
          refine hJ _ _ hBa ?_
          clear hJ J hwa
          try simp only [Act.put, List.setIfInBounds_toArray, List.set_cons_zero, List.set_cons_succ]
          refine' hold_sole ?_ ?_ (fun J hJ => ?_)
          rotate_left 1
          · simp only [List.getElem?_toArray, List.getElem?_cons_zero, List.getElem?_cons_succ]; exact rfl
          · exact rfl
          go_simp
          refine (get_any (HAx.out _ (Hb5.out.trans (hBa.mono Hb5.out.size))) hBay Htv.out.2.1).mono ?_
          rintro e w8 ⟨k8, z8, a8, len8, cap8, rfl, hv8, hb8⟩
          rw [Htv.out.2.2] at hv8 ⊢
          have hB8 : Below w5.heap.size w5 w8 := hBa.trans (hb8.mono hBa.size)
          have hB8y := bytes_keep hBay hb8
          have hB8z := val_later hb8 hza
          have hlt8 : w7.heap.size < wa.heap.size := lt_of_block hza
          refine hJ _ _ hB8 ?_
          clear hJ J hb8
          try simp only []
          repeat (first
              | (refine' hold_skip ?_ ?_ ?_
                 rotate_left 1
                 · simp only [List.getElem?_toArray, List.getElem?_cons_zero, List.getElem?_cons_succ]; exact rfl
                 · exact rfl
                 simp only [Act.put, List.setIfInBounds_toArray, List.set_cons_zero, List.set_cons_succ])
              | (refine' hold_want ?_ ?_ (fun J hJ => ?_)
                 rotate_left 1
                 · simp only [List.getElem?_toArray, List.getElem?_cons_zero, List.getElem?_cons_succ]; exact rfl
                 · exact rfl
                 first
                 | (refine K.quiet_load_core _ rfl w.heap.size 0 _ rfl (fun w' ⟨L, hL⟩ => HXx.out _ (Hb5.out.trans ((hL ▸ L.ok : Below w5.heap.size w5 w').mono Hb5.out.size))) ?_; refine hJ _ ?_; clear hJ J; try simp only [Act.put, List.setIfInBounds_toArray, List.set_cons_zero, List.set_cons_succ])
                 | (refine quiet_load_val _ rfl (w.heap.size + 1) 0 _ rfl (fun w' ⟨L, hL⟩ => HXv.out _ (Hb5.out.trans ((hL ▸ L.ok : Below w5.heap.size w5 w').mono Hb5.out.size))) ?_; refine hJ _ ?_; clear hJ J; try simp only [Act.put, List.setIfInBounds_toArray, List.set_cons_zero, List.set_cons_succ])
                 | (refine quiet_extract _ _ rfl _ _ rfl rfl ?_; refine hJ _ ?_; clear hJ J; try simp only [Act.put, List.setIfInBounds_toArray, List.set_cons_zero, List.set_cons_succ])
                 | (go_big_quiet_op; refine hJ _ ?_; clear hJ J; try simp only [Act.put, List.setIfInBounds_toArray, List.set_cons_zero, List.set_cons_succ])))
          refine' hold_sole ?_ ?_ (fun J hJ => ?_)
          rotate_left 1
          · simp only [List.getElem?_toArray, List.getElem?_cons_zero, List.getElem?_cons_succ]; exact rfl
          · exact rfl
          refine wp_store_val _ _ rfl w7.heap.size _ #[.int .i64 k8, .int .u8 z8, .slice a8 len8 cap8] rfl rfl hB8z rfl rfl (by simp [Value.oneCell']) ?_
          intro ws hns hos
          have hBs : Below w5.heap.size w5 ws := hos.below hB8 (by first | exact Nat.le_refl _ | exact hB7.size)
          have hvs : Vl.at ws v [.int .i64 k8, .int .u8 z8, .slice a8 len8 cap8] := ValOn.only hv8 hos hlt8
          have h3s := val3_in (cs := [.int .i64 k8, .int .u8 z8, .slice a8 len8 cap8]) hns rfl
          refine hJ _ _ hBs ?_
          clear hJ J
          try simp only [Act.put]
          repeat (first
              | (refine' hold_skip ?_ ?_ ?_
                 rotate_left 1
                 · simp only [List.getElem?_toArray, List.getElem?_cons_zero, List.getElem?_cons_succ]; exact rfl
                 · exact rfl
                 simp only [Act.put, List.setIfInBounds_toArray, List.set_cons_zero, List.set_cons_succ])
              | (refine' hold_want ?_ ?_ (fun J hJ => ?_)
                 rotate_left 1
                 · simp only [List.getElem?_toArray, List.getElem?_cons_zero, List.getElem?_cons_succ]; exact rfl
                 · exact rfl
                 first
                 | (refine K.quiet_load_core _ rfl w.heap.size 0 _ rfl (fun w' ⟨L, hL⟩ => HXx.out _ (Hb5.out.trans ((hL ▸ L.ok : Below w5.heap.size w5 w').mono Hb5.out.size))) ?_; refine hJ _ ?_; clear hJ J; try simp only [Act.put, List.setIfInBounds_toArray, List.set_cons_zero, List.set_cons_succ])
                 | (refine quiet_load_val _ rfl (w.heap.size + 1) 0 _ rfl (fun w' ⟨L, hL⟩ => HXv.out _ (Hb5.out.trans ((hL ▸ L.ok : Below w5.heap.size w5 w').mono Hb5.out.size))) ?_; refine hJ _ ?_; clear hJ J; try simp only [Act.put, List.setIfInBounds_toArray, List.set_cons_zero, List.set_cons_succ])
                 | (refine quiet_extract _ _ rfl _ _ rfl rfl ?_; refine hJ _ ?_; clear hJ J; try simp only [Act.put, List.setIfInBounds_toArray, List.set_cons_zero, List.set_cons_succ])
                 | (go_big_quiet_op; refine hJ _ ?_; clear hJ J; try simp only [Act.put, List.setIfInBounds_toArray, List.set_cons_zero, List.set_cons_succ])))
          refine hold_done ?_
          refine hMet _ _ (Met.intro (hR _ _ ?_))
          exact ⟨_, _, _, _, _, _, _, _, _, _, _, ⟨w7.heap.size, k8, a8, len8, cap8, z8, rfl, rfl, h3s, hvs, hBs⟩, rfl⟩


      · refine' hold_step ?_ ?_ (fun J hJ => ?_)
        rotate_left 1
        · simp only [List.getElem?_toArray, List.getElem?_cons_zero, List.getElem?_cons_succ]; exact rfl
        · exact rfl
        unfold Oper.wp execOp
        go_simp
        obtain ⟨wa, hwa⟩ : ∃ wa, wa = w6.alloc (.cells #[.int .i64 0, .int .u8 0, .slice none 0 0] 35) := ⟨_, rfl⟩
        rw [← hwa]
        have hba : Below w6.heap.size w6 wa := by rw [hwa]; exact K.alloc_below _ _
        have hza : ValIn wa w6.heap.size #[.int .i64 0, .int .u8 0, .slice none 0 0] := by rw [hwa]; exact World.alloc_heap_new _ _
        have hBa : Below w5.heap.size w5 wa := hB6.trans (hba.mono hB6.size)
        refine hJ _ _ hBa ?_
        clear hJ J hwa
        try simp only [Act.put, List.setIfInBounds_toArray, List.set_cons_zero, List.set_cons_succ]
        refine' hold_sole ?_ ?_ (fun J hJ => ?_)
        rotate_left 1
        · simp only [List.getElem?_toArray, List.getElem?_cons_zero, List.getElem?_cons_succ]; exact rfl
        · exact rfl
        go_simp
        refine (flat_z (HAv.out _ (Hb5.out.trans (hBa.mono Hb5.out.size))) Hsv.out).mono ?_
        rintro e w7 ⟨p7, c7, rfl, hy7, hb7⟩
        have hB7 : Below w5.heap.size w5 w7 := hBa.trans (hb7.mono hBa.size)
        have hB7z := val_later hb7 hza
        refine hJ _ _ hB7 ?_
        clear hJ J hb7
        try simp only [Act.put, List.setIfInBounds_toArray, List.set_cons_zero, List.set_cons_succ]
        refine' hold_sole ?_ ?_ (fun J hJ => ?_)
        rotate_left 1
        · simp only [List.getElem?_toArray, List.getElem?_cons_zero, List.getElem?_cons_succ]; exact rfl
        · exact rfl
        go_simp
        refine (get_any (HAx.out _ (Hb5.out.trans (hB7.mono Hb5.out.size))) hy7 Htv.out.2.1).mono ?_
        rintro e w8 ⟨k8, z8, a8, len8, cap8, rfl, hv8, hb8⟩
        rw [Htv.out.2.2] at hv8 ⊢
        have hB8 : Below w5.heap.size w5 w8 := hB7.trans (hb8.mono hB7.size)
        have hB8y := bytes_keep hy7 hb8
        have hB8z := val_later hb8 hB7z
        have hlt8 : w6.heap.size < w7.heap.size := lt_of_block hB7z
        refine hJ _ _ hB8 ?_
        clear hJ J hb8
        try simp only []
        repeat (first
            | (refine' hold_skip ?_ ?_ ?_
               rotate_left 1
               · simp only [List.getElem?_toArray, List.getElem?_cons_zero, List.getElem?_cons_succ]; exact rfl
               · exact rfl
               simp only [Act.put, List.setIfInBounds_toArray, List.set_cons_zero, List.set_cons_succ])
            | (refine' hold_want ?_ ?_ (fun J hJ => ?_)
               rotate_left 1
               · simp only [List.getElem?_toArray, List.getElem?_cons_zero, List.getElem?_cons_succ]; exact rfl
               · exact rfl
               first
               | (refine K.quiet_load_core _ rfl w.heap.size 0 _ rfl (fun w' ⟨L, hL⟩ => HXx.out _ (Hb5.out.trans ((hL ▸ L.ok : Below w5.heap.size w5 w').mono Hb5.out.size))) ?_; refine hJ _ ?_; clear hJ J; try simp only [Act.put, List.setIfInBounds_toArray, List.set_cons_zero, List.set_cons_succ])
               | (refine quiet_load_val _ rfl (w.heap.size + 1) 0 _ rfl (fun w' ⟨L, hL⟩ => HXv.out _ (Hb5.out.trans ((hL ▸ L.ok : Below w5.heap.size w5 w').mono Hb5.out.size))) ?_; refine hJ _ ?_; clear hJ J; try simp only [Act.put, List.setIfInBounds_toArray, List.set_cons_zero, List.set_cons_succ])
               | (refine quiet_extract _ _ rfl _ _ rfl rfl ?_; refine hJ _ ?_; clear hJ J; try simp only [Act.put, List.setIfInBounds_toArray, List.set_cons_zero, List.set_cons_succ])
               | (go_big_quiet_op; refine hJ _ ?_; clear hJ J; try simp only [Act.put, List.setIfInBounds_toArray, List.set_cons_zero, List.set_cons_succ])))
        refine' hold_sole ?_ ?_ (fun J hJ => ?_)
        rotate_left 1
        · simp only [List.getElem?_toArray, List.getElem?_cons_zero, List.getElem?_cons_succ]; exact rfl
        · exact rfl
        refine wp_store_val _ _ rfl w6.heap.size _ #[.int .i64 k8, .int .u8 z8, .slice a8 len8 cap8] rfl rfl hB8z rfl rfl (by simp [Value.oneCell']) ?_
        intro ws hns hos
        have hBs : Below w5.heap.size w5 ws := hos.below hB8 (by first | exact Nat.le_refl _ | exact hB6.size)
        have hvs : Vl.at ws v [.int .i64 k8, .int .u8 z8, .slice a8 len8 cap8] := ValOn.only hv8 hos hlt8
        have h3s := val3_in (cs := [.int .i64 k8, .int .u8 z8, .slice a8 len8 cap8]) hns rfl
        refine hJ _ _ hBs ?_
        clear hJ J
        try simp only [Act.put]
        repeat (first
            | (refine' hold_skip ?_ ?_ ?_
               rotate_left 1
               · simp only [List.getElem?_toArray, List.getElem?_cons_zero, List.getElem?_cons_succ]; exact rfl
               · exact rfl
               simp only [Act.put, List.setIfInBounds_toArray, List.set_cons_zero, List.set_cons_succ])
            | (refine' hold_want ?_ ?_ (fun J hJ => ?_)
               rotate_left 1
               · simp only [List.getElem?_toArray, List.getElem?_cons_zero, List.getElem?_cons_succ]; exact rfl
               · exact rfl
               first
               | (refine K.quiet_load_core _ rfl w.heap.size 0 _ rfl (fun w' ⟨L, hL⟩ => HXx.out _ (Hb5.out.trans ((hL ▸ L.ok : Below w5.heap.size w5 w').mono Hb5.out.size))) ?_; refine hJ _ ?_; clear hJ J; try simp only [Act.put, List.setIfInBounds_toArray, List.set_cons_zero, List.set_cons_succ])
               | (refine quiet_load_val _ rfl (w.heap.size + 1) 0 _ rfl (fun w' ⟨L, hL⟩ => HXv.out _ (Hb5.out.trans ((hL ▸ L.ok : Below w5.heap.size w5 w').mono Hb5.out.size))) ?_; refine hJ _ ?_; clear hJ J; try simp only [Act.put, List.setIfInBounds_toArray, List.set_cons_zero, List.set_cons_succ])
               | (refine quiet_extract _ _ rfl _ _ rfl rfl ?_; refine hJ _ ?_; clear hJ J; try simp only [Act.put, List.setIfInBounds_toArray, List.set_cons_zero, List.set_cons_succ])
               | (go_big_quiet_op; refine hJ _ ?_; clear hJ J; try simp only [Act.put, List.setIfInBounds_toArray, List.set_cons_zero, List.set_cons_succ])))
        refine hold_done ?_
        refine hMet _ _ (Met.intro (hR _ _ ?_))
        exact ⟨_, _, _, _, _, _, _, _, _, _, _, ⟨w6.heap.size, k8, a8, len8, cap8, z8, rfl, rfl, h3s, hvs, hBs⟩, rfl⟩


    · refine' hold_step ?_ ?_ (fun J hJ => ?_)
      rotate_left 1
      · simp only [List.getElem?_toArray, List.getElem?_cons_zero, List.getElem?_cons_succ]; exact rfl
      · exact rfl
      unfold Oper.wp execOp
      go_simp
      obtain ⟨wa, hwa⟩ : ∃ wa, wa = wd.alloc (.cells #[.int .i64 0, .int .u8 0, .slice none 0 0] 35) := ⟨_, rfl⟩
      rw [← hwa]
      have hba : Below wd.heap.size wd wa := by rw [hwa]; exact K.alloc_below _ _
      have hza : ValIn wa wd.heap.size #[.int .i64 0, .int .u8 0, .slice none 0 0] := by rw [hwa]; exact World.alloc_heap_new _ _
      have hBa : Below w5.heap.size w5 wa := hBd.trans (hba.mono hBd.size)
      refine hJ _ _ hBa ?_
      clear hJ J hwa
      try simp only [Act.put, List.setIfInBounds_toArray, List.set_cons_zero, List.set_cons_succ]
      refine' hold_sole ?_ ?_ (fun J hJ => ?_)
      rotate_left 1
      · simp only [List.getElem?_toArray, List.getElem?_cons_zero, List.getElem?_cons_succ]; exact rfl
      · exact rfl
      go_simp
      refine (put_y (t := tv) (HAv.out _ (Hb5.out.trans (hBa.mono Hb5.out.size))) Htv.out.1 Hsv.out).mono ?_
      rintro e w6 ⟨rfl, hb6⟩
      have hB6 : Below w5.heap.size w5 w6 := hBa.trans (hb6.mono hBa.size)
      have hB6z := val_later hb6 hza
      refine hJ _ _ hB6 ?_
      clear hJ J hb6
      try simp only [Act.put, List.setIfInBounds_toArray, List.set_cons_zero, List.set_cons_succ]
      refine' hold_sole ?_ ?_ (fun J hJ => ?_)
      rotate_left 1
      · simp only [List.getElem?_toArray, List.getElem?_cons_zero, List.getElem?_cons_succ]; exact rfl
      · exact rfl
      go_simp
      refine (flat_z (HAv.out _ (Hb5.out.trans (hB6.mono Hb5.out.size))) Hsv.out).mono ?_
      rintro e w7 ⟨p7, c7, rfl, hy7, hb7⟩
      have hB7 : Below w5.heap.size w5 w7 := hB6.trans (hb7.mono hB6.size)
      have hB7z := val_later hb7 hB6z
      refine hJ _ _ hB7 ?_
      clear hJ J hb7
      try simp only [Act.put, List.setIfInBounds_toArray, List.set_cons_zero, List.set_cons_succ]
      refine' hold_sole ?_ ?_ (fun J hJ => ?_)
      rotate_left 1
      · simp only [List.getElem?_toArray, List.getElem?_cons_zero, List.getElem?_cons_succ]; exact rfl
      · exact rfl
      go_simp
      refine (get_any (HAx.out _ (Hb5.out.trans (hB7.mono Hb5.out.size))) hy7 Htv.out.2.1).mono ?_
      rintro e w8 ⟨k8, z8, a8, len8, cap8, rfl, hv8, hb8⟩
      rw [Htv.out.2.2] at hv8 ⊢
      have hB8 : Below w5.heap.size w5 w8 := hB7.trans (hb8.mono hB7.size)
      have hB8y := bytes_keep hy7 hb8
      have hB8z := val_later hb8 hB7z
      have hlt8 : wd.heap.size < w7.heap.size := lt_of_block hB7z
      refine hJ _ _ hB8 ?_
      clear hJ J hb8
      try simp only []
      repeat (first
          | (refine' hold_skip ?_ ?_ ?_
             rotate_left 1
             · simp only [List.getElem?_toArray, List.getElem?_cons_zero, List.getElem?_cons_succ]; exact rfl
             · exact rfl
             simp only [Act.put, List.setIfInBounds_toArray, List.set_cons_zero, List.set_cons_succ])
          | (refine' hold_want ?_ ?_ (fun J hJ => ?_)
             rotate_left 1
             · simp only [List.getElem?_toArray, List.getElem?_cons_zero, List.getElem?_cons_succ]; exact rfl
             · exact rfl
             first
             | (refine K.quiet_load_core _ rfl w.heap.size 0 _ rfl (fun w' ⟨L, hL⟩ => HXx.out _ (Hb5.out.trans ((hL ▸ L.ok : Below w5.heap.size w5 w').mono Hb5.out.size))) ?_; refine hJ _ ?_; clear hJ J; try simp only [Act.put, List.setIfInBounds_toArray, List.set_cons_zero, List.set_cons_succ])
             | (refine quiet_load_val _ rfl (w.heap.size + 1) 0 _ rfl (fun w' ⟨L, hL⟩ => HXv.out _ (Hb5.out.trans ((hL ▸ L.ok : Below w5.heap.size w5 w').mono Hb5.out.size))) ?_; refine hJ _ ?_; clear hJ J; try simp only [Act.put, List.setIfInBounds_toArray, List.set_cons_zero, List.set_cons_succ])
             | (refine quiet_extract _ _ rfl _ _ rfl rfl ?_; refine hJ _ ?_; clear hJ J; try simp only [Act.put, List.setIfInBounds_toArray, List.set_cons_zero, List.set_cons_succ])
             | (go_big_quiet_op; refine hJ _ ?_; clear hJ J; try simp only [Act.put, List.setIfInBounds_toArray, List.set_cons_zero, List.set_cons_succ])))
      refine' hold_sole ?_ ?_ (fun J hJ => ?_)
      rotate_left 1
      · simp only [List.getElem?_toArray, List.getElem?_cons_zero, List.getElem?_cons_succ]; exact rfl
      · exact rfl
      refine wp_store_val _ _ rfl wd.heap.size _ #[.int .i64 k8, .int .u8 z8, .slice a8 len8 cap8] rfl rfl hB8z rfl rfl (by simp [Value.oneCell']) ?_
      intro ws hns hos
      have hBs : Below w5.heap.size w5 ws := hos.below hB8 (by first | exact Nat.le_refl _ | exact hBd.size)
      have hvs : Vl.at ws v [.int .i64 k8, .int .u8 z8, .slice a8 len8 cap8] := ValOn.only hv8 hos hlt8
      have h3s := val3_in (cs := [.int .i64 k8, .int .u8 z8, .slice a8 len8 cap8]) hns rfl
      refine hJ _ _ hBs ?_
      clear hJ J
      try simp only [Act.put]
      repeat (first
          | (refine' hold_skip ?_ ?_ ?_
             rotate_left 1
             · simp only [List.getElem?_toArray, List.getElem?_cons_zero, List.getElem?_cons_succ]; exact rfl
             · exact rfl
             simp only [Act.put, List.setIfInBounds_toArray, List.set_cons_zero, List.set_cons_succ])
          | (refine' hold_want ?_ ?_ (fun J hJ => ?_)
             rotate_left 1
             · simp only [List.getElem?_toArray, List.getElem?_cons_zero, List.getElem?_cons_succ]; exact rfl
             · exact rfl
             first
             | (refine K.quiet_load_core _ rfl w.heap.size 0 _ rfl (fun w' ⟨L, hL⟩ => HXx.out _ (Hb5.out.trans ((hL ▸ L.ok : Below w5.heap.size w5 w').mono Hb5.out.size))) ?_; refine hJ _ ?_; clear hJ J; try simp only [Act.put, List.setIfInBounds_toArray, List.set_cons_zero, List.set_cons_succ])
             | (refine quiet_load_val _ rfl (w.heap.size + 1) 0 _ rfl (fun w' ⟨L, hL⟩ => HXv.out _ (Hb5.out.trans ((hL ▸ L.ok : Below w5.heap.size w5 w').mono Hb5.out.size))) ?_; refine hJ _ ?_; clear hJ J; try simp only [Act.put, List.setIfInBounds_toArray, List.set_cons_zero, List.set_cons_succ])
             | (refine quiet_extract _ _ rfl _ _ rfl rfl ?_; refine hJ _ ?_; clear hJ J; try simp only [Act.put, List.setIfInBounds_toArray, List.set_cons_zero, List.set_cons_succ])
             | (go_big_quiet_op; refine hJ _ ?_; clear hJ J; try simp only [Act.put, List.setIfInBounds_toArray, List.set_cons_zero, List.set_cons_succ])))
      refine hold_done ?_
      refine hMet _ _ (Met.intro (hR _ _ ?_))
      exact ⟨_, _, _, _, _, _, _, _, _, _, _, ⟨wd.heap.size, k8, a8, len8, cap8, z8, rfl, rfl, h3s, hvs, hBs⟩, rfl⟩


  case rest =>
  obtain ⟨b9, kq, aq, lenq, capq, zq, rfl, rfl, h39, hat9, hBc⟩ := hcut
  have Hb6 := Lib.hid (Hb5.out.trans (hBc.mono Hb5.out.size))
  have h39' := Lib.hid h39
  have hsame := same_any v.count v v _ _ _ (Nat.le_refl _) hat9 (HAv.out _ (Hb5.out.trans (hBc.mono Hb5.out.size)))
  rw [Vl.same_refl] at hsame
  have Hsame := Lib.hid hsame
  clear h39 hat9 hBc hsame
  go_wp2_with (first
    | (refine wpList_load_val_want rfl _ rfl b9 0 _ rfl h39'.out ?_)
    | (refine wpList_load_val_want rfl _ rfl (w.heap.size + 1) 0 _ rfl (HXv.out _ Hb6.out) ?_)
    | fail)
  refine Hsame.out.mono ?_
  rintro e w8 ⟨rfl, hb'⟩
  have Hb8 := Lib.hid (Hb6.out.trans (hb'.mono Hb6.out.size))
  clear hb'
  obtain ⟨e1, he1⟩ : ∃ e1, e1 = (resG x (nats t) l).2 := ⟨_, rfl⟩
  obtain ⟨u1, hu1⟩ : ∃ u1, u1 = (resG x (nats t) l).1 := ⟨_, rfl⟩
  go_wp2_with (first | (refine K.wpList_load_core rfl _ rfl w.heap.size 0 _ rfl (HXx.out _ Hb8.out) ?_) | fail)
  refine (get_any (HAx.out _ Hb8.out) (HAl.out _ Hb8.out) (by have := C2H.out; omega)).mono ?_
  rintro e w9 ⟨k9, z9, a9, len9, cap9, rfl, hv9, hb'⟩
  rw [← he1]
  rw [← hu1] at hv9
  have He1 := Lib.hid he1
  have Hu1 := Lib.hid hu1
  clear he1 hu1
  obtain ⟨w10, hw10⟩ : ∃ w10, w10 = w9.alloc (.cells #[.int .i64 k9, .int .u8 z9, .slice a9 len9 cap9] 35) := ⟨_, rfl⟩
  have hal10 : Below w9.heap.size w9 w10 := by rw [hw10]; exact K.alloc_below w9 _
  have hb10 : Below W.heap.size W w10 := (Hb8.out.trans (hb'.mono Hb8.out.size)).trans (hal10.mono (by have := Hb8.out.size; have := hb'.size; omega))
  have hat10 := Vl.at_below hal10 (Nat.le_refl _) _ _ hv9.at
  have hx10 : ValIn w10 w9.heap.size #[.int .i64 k9, .int .u8 z9, .slice a9 len9 cap9] := by rw [hw10]; exact World.alloc_heap_new w9 _
  have h310 := val3_in (cs := [.int .i64 k9, .int .u8 z9, .slice a9 len9 cap9]) hx10 rfl
  have H10 := Lib.hid (fun (w' : World) (h : Below w10.heap.size w10 w') => And.intro (h310.below h310.lt h) (Vl.at_below h (Nat.le_refl _) _ _ hat10))
  have Hb10 := Lib.hid hb10
  clear hb' hal10 hb10 hat10 hx10 h310 hv9
  go_upto_region 10 with fail
  rw [← hw10]
  clear hw10
  go_cut [8] from 63 to 83 (fun v8 wx => v8 = .bool true ∧ Below w10.heap.size w10 wx)
  case first =>
    rename_i J K' hR hMet
    obtain ⟨wd, hwd⟩ : ∃ wd, wd = w10.drew := ⟨_, rfl⟩
    have hBd : Below w10.heap.size w10 wd := by rw [hwd]; exact (Below.refl _ _).drew
    have hNE := HeldW.nonempty (S := fun w' => Below w10.heap.size w10 w') hBd
    have he1 := He1.out
    have hu1 := Hu1.out
    by_cases hz : e1 = 0
    · subst hz
      obtain ⟨_, hgood, uu, hres, hbel, hfull, hput, hflat, hcount⟩ := resG_yes he1.symm
      rw [hres] at hu1
      obtain rfl : u1 = uu := hu1
      have hcnt : u1.count ≤ 1048576 := by have := C2H.out; rw [nats_length] at hcount; omega
      obtain ⟨tf, htf⟩ : ∃ tf : ByteArray, tf = ⟨(toBytes l).toArray⟩ := ⟨_, rfl⟩
      have hs0 := fun (w' : World) (h : Below w10.heap.size w10 w') => string_at (HAl.out w' (Hb10.out.trans (h.mono Hb10.out.size)))
      rw [← htf] at hs0
      have HF := Lib.hid (And.intro hgood (And.intro hbel (And.intro hfull (And.intro hput (And.intro hflat hcnt)))))
      have Htf := Lib.hid htf
      have Hs0 := Lib.hid hs0
      have hne0 : ((0 : Int) != 0) = false := rfl
      have htt : (t.toList == t.toList) = true := by simp
      have hff : (tf.toList == tf.toList) = true := by simp
      clear hgood hres hbel hfull hput hflat hcount hcnt htf hs0 he1 He1 Hu1
      refine wp_region_hold (fun w' => Below w10.heap.size w10 w') (.plain 0 (.plain 1 (.plain 2 (.plain 3 (.plain 4 (.sole 5 (.plain 6 (.plain 7 (.plain 9 (.sole 8 (.plain 10 (.plain 11 (.plain 12 (.plain 13 (.plain 16 (.plain 17 (.sole 14 (.sole 15 (.plain 18 (.plain 19 (.plain 20 (.plain 21 .done)))))))))))))))))))))) (by rw [← hwd]; exact hBd) (by kernel_rfl) (by kernel_rfl) (fun c a d v w h => by cases d <;> exact h) ?_
      rw [← hwd]
      clear hwd
      repeat (first
          | (refine' hold_skip ?_ ?_ ?_
             rotate_left 1
             · simp only [List.getElem?_toArray, List.getElem?_cons_zero, List.getElem?_cons_succ]; exact rfl
             · exact rfl
             simp only [Act.put, List.setIfInBounds_toArray, List.set_cons_zero, List.set_cons_succ])
          | (refine' hold_want ?_ ?_ (fun J hJ => ?_)
             rotate_left 1
             · simp only [List.getElem?_toArray, List.getElem?_cons_zero, List.getElem?_cons_succ]; exact rfl
             · exact rfl
             first
             | (refine K.quiet_load_core _ rfl w.heap.size 0 _ rfl (fun w' ⟨L, hL⟩ => HXx.out _ (Hb10.out.trans ((hL ▸ L.ok : Below w10.heap.size w10 w').mono Hb10.out.size))) ?_; refine hJ _ ?_; clear hJ J; try simp only [Act.put, List.setIfInBounds_toArray, List.set_cons_zero, List.set_cons_succ])
             | (refine quiet_load_val _ rfl w9.heap.size 0 _ rfl (fun w' ⟨L, hL⟩ => (H10.out _ (hL ▸ L.ok : Below w10.heap.size w10 w')).1) ?_; refine hJ _ ?_; clear hJ J; try simp only [Act.put, List.setIfInBounds_toArray, List.set_cons_zero, List.set_cons_succ])
             | (refine quiet_conv _ rfl _ (.string tf) rfl (fun w' ⟨L, hL⟩ => Hs0.out w' (hL ▸ L.ok : Below w10.heap.size w10 w')) ?_; refine hJ _ ?_; clear hJ J; try simp only [Act.put, List.setIfInBounds_toArray, List.set_cons_zero, List.set_cons_succ])
             | (refine quiet_extract _ _ rfl _ _ rfl rfl ?_; refine hJ _ ?_; clear hJ J; try simp only [Act.put, List.setIfInBounds_toArray, List.set_cons_zero, List.set_cons_succ])
             | (go_big_quiet_op; refine hJ _ ?_; clear hJ J; try simp only [Act.put, List.setIfInBounds_toArray, List.set_cons_zero, List.set_cons_succ])))
      refine' hold_sole ?_ ?_ (fun J hJ => ?_)
      rotate_left 1
      · simp only [List.getElem?_toArray, List.getElem?_cons_zero, List.getElem?_cons_succ]; exact rfl
      · exact rfl
      go_simp
      refine (full_z (HAx.out _ (Hb10.out.trans (hBd.mono Hb10.out.size))) (H10.out _ hBd).2 HF.out.2.2.2.2.2).mono ?_
      rintro e w11 ⟨rfl, hb11⟩
      have hB11 : Below w10.heap.size w10 w11 := hBd.trans (hb11.mono hBd.size)
      rw [HF.out.1, HF.out.2.1, HF.out.2.2.1]
      refine hJ _ _ hB11 ?_
      clear hJ J hb11
      try simp only [Act.put, List.setIfInBounds_toArray, List.set_cons_zero, List.set_cons_succ]
      repeat (first
          | (refine' hold_skip ?_ ?_ ?_
             rotate_left 1
             · simp only [List.getElem?_toArray, List.getElem?_cons_zero, List.getElem?_cons_succ]; exact rfl
             · exact rfl
             simp only [Act.put, List.setIfInBounds_toArray, List.set_cons_zero, List.set_cons_succ])
          | (refine' hold_want ?_ ?_ (fun J hJ => ?_)
             rotate_left 1
             · simp only [List.getElem?_toArray, List.getElem?_cons_zero, List.getElem?_cons_succ]; exact rfl
             · exact rfl
             first
             | (refine K.quiet_load_core _ rfl w.heap.size 0 _ rfl (fun w' ⟨L, hL⟩ => HXx.out _ (Hb10.out.trans ((hL ▸ L.ok : Below w10.heap.size w10 w').mono Hb10.out.size))) ?_; refine hJ _ ?_; clear hJ J; try simp only [Act.put, List.setIfInBounds_toArray, List.set_cons_zero, List.set_cons_succ])
             | (refine quiet_load_val _ rfl w9.heap.size 0 _ rfl (fun w' ⟨L, hL⟩ => (H10.out _ (hL ▸ L.ok : Below w10.heap.size w10 w')).1) ?_; refine hJ _ ?_; clear hJ J; try simp only [Act.put, List.setIfInBounds_toArray, List.set_cons_zero, List.set_cons_succ])
             | (refine quiet_conv _ rfl _ (.string tf) rfl (fun w' ⟨L, hL⟩ => Hs0.out w' (hL ▸ L.ok : Below w10.heap.size w10 w')) ?_; refine hJ _ ?_; clear hJ J; try simp only [Act.put, List.setIfInBounds_toArray, List.set_cons_zero, List.set_cons_succ])
             | (refine quiet_extract _ _ rfl _ _ rfl rfl ?_; refine hJ _ ?_; clear hJ J; try simp only [Act.put, List.setIfInBounds_toArray, List.set_cons_zero, List.set_cons_succ])
             | (go_big_quiet_op; refine hJ _ ?_; clear hJ J; try simp only [Act.put, List.setIfInBounds_toArray, List.set_cons_zero, List.set_cons_succ])))
      refine' hold_sole ?_ ?_ (fun J hJ => ?_)
      rotate_left 1
      · simp only [List.getElem?_toArray, List.getElem?_cons_zero, List.getElem?_cons_succ]; exact rfl
      · exact rfl
      go_simp
      refine (put_y (t := t) (H10.out _ hB11).2 HF.out.2.2.2.1 HF.out.2.2.2.2.2).mono ?_
      rintro e w12 ⟨rfl, hb12⟩
      have hB12 : Below w10.heap.size w10 w12 := hB11.trans (hb12.mono hB11.size)
      refine hJ _ _ hB12 ?_
      clear hJ J hb12
      try simp only [Act.put, List.setIfInBounds_toArray, List.set_cons_zero, List.set_cons_succ]
      repeat (first
          | (refine' hold_skip ?_ ?_ ?_
             rotate_left 1
             · simp only [List.getElem?_toArray, List.getElem?_cons_zero, List.getElem?_cons_succ]; exact rfl
             · exact rfl
             simp only [Act.put, List.setIfInBounds_toArray, List.set_cons_zero, List.set_cons_succ])
          | (refine' hold_want ?_ ?_ (fun J hJ => ?_)
             rotate_left 1
             · simp only [List.getElem?_toArray, List.getElem?_cons_zero, List.getElem?_cons_succ]; exact rfl
             · exact rfl
             first
             | (refine K.quiet_load_core _ rfl w.heap.size 0 _ rfl (fun w' ⟨L, hL⟩ => HXx.out _ (Hb10.out.trans ((hL ▸ L.ok : Below w10.heap.size w10 w').mono Hb10.out.size))) ?_; refine hJ _ ?_; clear hJ J; try simp only [Act.put, List.setIfInBounds_toArray, List.set_cons_zero, List.set_cons_succ])
             | (refine quiet_load_val _ rfl w9.heap.size 0 _ rfl (fun w' ⟨L, hL⟩ => (H10.out _ (hL ▸ L.ok : Below w10.heap.size w10 w')).1) ?_; refine hJ _ ?_; clear hJ J; try simp only [Act.put, List.setIfInBounds_toArray, List.set_cons_zero, List.set_cons_succ])
             | (refine quiet_conv _ rfl _ (.string tf) rfl (fun w' ⟨L, hL⟩ => Hs0.out w' (hL ▸ L.ok : Below w10.heap.size w10 w')) ?_; refine hJ _ ?_; clear hJ J; try simp only [Act.put, List.setIfInBounds_toArray, List.set_cons_zero, List.set_cons_succ])
             | (refine quiet_extract _ _ rfl _ _ rfl rfl ?_; refine hJ _ ?_; clear hJ J; try simp only [Act.put, List.setIfInBounds_toArray, List.set_cons_zero, List.set_cons_succ])
             | (go_big_quiet_op; refine hJ _ ?_; clear hJ J; try simp only [Act.put, List.setIfInBounds_toArray, List.set_cons_zero, List.set_cons_succ])))
      refine' hold_sole ?_ ?_ (fun J hJ => ?_)
      rotate_left 1
      · simp only [List.getElem?_toArray, List.getElem?_cons_zero, List.getElem?_cons_succ]; exact rfl
      · exact rfl
      go_simp
      refine (flat_z (H10.out _ hB12).2 HF.out.2.2.2.2.2).mono ?_
      rintro e w13 ⟨p13, c13, rfl, hy13, hb13⟩
      have hB13 : Below w10.heap.size w10 w13 := hB12.trans (hb13.mono hB12.size)
      have hst13 := string_at hy13
      rw [← HF.out.2.2.2.2.1, ← Htf.out] at hst13
      have hst13' : (convert 39 9 (.slice p13 l.length c13)).run Try.prog w13 = .ok (.string tf) w13 := hst13
      rw [← HF.out.2.2.2.2.1]
      refine hJ _ _ hB13 ?_
      clear hJ J hb13 hy13
      try simp only [Act.put, List.setIfInBounds_toArray, List.set_cons_zero, List.set_cons_succ]
      refine' hold_sole ?_ ?_ (fun J hJ => ?_)
      rotate_left 1
      · simp only [List.getElem?_toArray, List.getElem?_cons_zero, List.getElem?_cons_succ]; exact rfl
      · exact rfl
      unfold Oper.wp execOp
      go_simp
      try rw [hst13']
      refine hJ _ _ hB13 ?_
      clear hJ J
      try simp only [Act.put, List.setIfInBounds_toArray, List.set_cons_zero, List.set_cons_succ]
      repeat (first
          | (refine' hold_skip ?_ ?_ ?_
             rotate_left 1
             · simp only [List.getElem?_toArray, List.getElem?_cons_zero, List.getElem?_cons_succ]; exact rfl
             · exact rfl
             simp only [Act.put, List.setIfInBounds_toArray, List.set_cons_zero, List.set_cons_succ])
          | (refine' hold_want ?_ ?_ (fun J hJ => ?_)
             rotate_left 1
             · simp only [List.getElem?_toArray, List.getElem?_cons_zero, List.getElem?_cons_succ]; exact rfl
             · exact rfl
             first
             | (refine K.quiet_load_core _ rfl w.heap.size 0 _ rfl (fun w' ⟨L, hL⟩ => HXx.out _ (Hb10.out.trans ((hL ▸ L.ok : Below w10.heap.size w10 w').mono Hb10.out.size))) ?_; refine hJ _ ?_; clear hJ J; try simp only [Act.put, List.setIfInBounds_toArray, List.set_cons_zero, List.set_cons_succ])
             | (refine quiet_load_val _ rfl w9.heap.size 0 _ rfl (fun w' ⟨L, hL⟩ => (H10.out _ (hL ▸ L.ok : Below w10.heap.size w10 w')).1) ?_; refine hJ _ ?_; clear hJ J; try simp only [Act.put, List.setIfInBounds_toArray, List.set_cons_zero, List.set_cons_succ])
             | (refine quiet_conv _ rfl _ (.string tf) rfl (fun w' ⟨L, hL⟩ => Hs0.out w' (hL ▸ L.ok : Below w10.heap.size w10 w')) ?_; refine hJ _ ?_; clear hJ J; try simp only [Act.put, List.setIfInBounds_toArray, List.set_cons_zero, List.set_cons_succ])
             | (refine quiet_extract _ _ rfl _ _ rfl rfl ?_; refine hJ _ ?_; clear hJ J; try simp only [Act.put, List.setIfInBounds_toArray, List.set_cons_zero, List.set_cons_succ])
             | (go_big_quiet_op; refine hJ _ ?_; clear hJ J; try simp only [Act.put, List.setIfInBounds_toArray, List.set_cons_zero, List.set_cons_succ])))
      refine hold_done ?_
      refine hMet _ _ (Met.intro (hR _ _ ?_))
      exact ⟨_, _, _, _, _, _, _, _, _, _, _, _, _, _, _, _, _, _, _, _, _, _, ⟨rfl, hB13⟩, rfl⟩
    · have hcode : e1 = 1 ∨ e1 = 7 := by have := resG_code x (nats t) l; rw [← he1] at this; exact this.resolve_left hz
      clear hz hu1 he1 He1 Hu1
      rcases hcode with rfl | rfl
      · refine wp_region_hold (fun w' => Below w10.heap.size w10 w') (.plain 0 (.plain 1 (.plain 2 (.plain 3 (.plain 4 (.sole 5 (.plain 6 (.plain 7 (.plain 9 (.sole 8 (.plain 10 (.plain 11 (.plain 12 (.plain 13 (.plain 16 (.plain 17 (.sole 14 (.sole 15 (.plain 18 (.plain 19 (.plain 20 (.plain 21 .done)))))))))))))))))))))) (by rw [← hwd]; exact hBd) (by kernel_rfl) (by kernel_rfl) (fun c a d v w h => by cases d <;> exact h) ?_
        rw [← hwd]
        clear hwd
        repeat (first
            | (refine' hold_skip ?_ ?_ ?_
               rotate_left 1
               · simp only [List.getElem?_toArray, List.getElem?_cons_zero, List.getElem?_cons_succ]; exact rfl
               · exact rfl
               simp only [Act.put, List.setIfInBounds_toArray, List.set_cons_zero, List.set_cons_succ])
            | (refine' hold_want ?_ ?_ (fun J hJ => ?_)
               rotate_left 1
               · simp only [List.getElem?_toArray, List.getElem?_cons_zero, List.getElem?_cons_succ]; exact rfl
               · exact rfl
               first
               | (refine K.quiet_load_core _ rfl w.heap.size 0 _ rfl (fun w' ⟨L, hL⟩ => HXx.out _ (Hb10.out.trans ((hL ▸ L.ok : Below w10.heap.size w10 w').mono Hb10.out.size))) ?_; refine hJ _ ?_; clear hJ J; try simp only [Act.put, List.setIfInBounds_toArray, List.set_cons_zero, List.set_cons_succ])
               | (refine quiet_load_val _ rfl w9.heap.size 0 _ rfl (fun w' ⟨L, hL⟩ => (H10.out _ (hL ▸ L.ok : Below w10.heap.size w10 w')).1) ?_; refine hJ _ ?_; clear hJ J; try simp only [Act.put, List.setIfInBounds_toArray, List.set_cons_zero, List.set_cons_succ])
               | (refine quiet_conv _ rfl _ (.string tf) rfl (fun w' ⟨L, hL⟩ => Hs0.out w' (hL ▸ L.ok : Below w10.heap.size w10 w')) ?_; refine hJ _ ?_; clear hJ J; try simp only [Act.put, List.setIfInBounds_toArray, List.set_cons_zero, List.set_cons_succ])
               | (refine quiet_extract _ _ rfl _ _ rfl rfl ?_; refine hJ _ ?_; clear hJ J; try simp only [Act.put, List.setIfInBounds_toArray, List.set_cons_zero, List.set_cons_succ])
               | (go_big_quiet_op; refine hJ _ ?_; clear hJ J; try simp only [Act.put, List.setIfInBounds_toArray, List.set_cons_zero, List.set_cons_succ])))
        refine' hold_sole_skip ?_ ?_ ?_
        rotate_left 1
        · simp only [List.getElem?_toArray, List.getElem?_cons_zero, List.getElem?_cons_succ]; exact rfl
        · exact rfl
        try simp only [Act.put, List.setIfInBounds_toArray, List.set_cons_zero, List.set_cons_succ]
        repeat (first
            | (refine' hold_skip ?_ ?_ ?_
               rotate_left 1
               · simp only [List.getElem?_toArray, List.getElem?_cons_zero, List.getElem?_cons_succ]; exact rfl
               · exact rfl
               simp only [Act.put, List.setIfInBounds_toArray, List.set_cons_zero, List.set_cons_succ])
            | (refine' hold_want ?_ ?_ (fun J hJ => ?_)
               rotate_left 1
               · simp only [List.getElem?_toArray, List.getElem?_cons_zero, List.getElem?_cons_succ]; exact rfl
               · exact rfl
               first
               | (refine K.quiet_load_core _ rfl w.heap.size 0 _ rfl (fun w' ⟨L, hL⟩ => HXx.out _ (Hb10.out.trans ((hL ▸ L.ok : Below w10.heap.size w10 w').mono Hb10.out.size))) ?_; refine hJ _ ?_; clear hJ J; try simp only [Act.put, List.setIfInBounds_toArray, List.set_cons_zero, List.set_cons_succ])
               | (refine quiet_load_val _ rfl w9.heap.size 0 _ rfl (fun w' ⟨L, hL⟩ => (H10.out _ (hL ▸ L.ok : Below w10.heap.size w10 w')).1) ?_; refine hJ _ ?_; clear hJ J; try simp only [Act.put, List.setIfInBounds_toArray, List.set_cons_zero, List.set_cons_succ])
               | (refine quiet_conv _ rfl _ (.string tf) rfl (fun w' ⟨L, hL⟩ => Hs0.out w' (hL ▸ L.ok : Below w10.heap.size w10 w')) ?_; refine hJ _ ?_; clear hJ J; try simp only [Act.put, List.setIfInBounds_toArray, List.set_cons_zero, List.set_cons_succ])
               | (refine quiet_extract _ _ rfl _ _ rfl rfl ?_; refine hJ _ ?_; clear hJ J; try simp only [Act.put, List.setIfInBounds_toArray, List.set_cons_zero, List.set_cons_succ])
               | (go_big_quiet_op; refine hJ _ ?_; clear hJ J; try simp only [Act.put, List.setIfInBounds_toArray, List.set_cons_zero, List.set_cons_succ])))
        refine' hold_sole_skip ?_ ?_ ?_
        rotate_left 1
        · simp only [List.getElem?_toArray, List.getElem?_cons_zero, List.getElem?_cons_succ]; exact rfl
        · exact rfl
        try simp only [Act.put, List.setIfInBounds_toArray, List.set_cons_zero, List.set_cons_succ]
        repeat (first
            | (refine' hold_skip ?_ ?_ ?_
               rotate_left 1
               · simp only [List.getElem?_toArray, List.getElem?_cons_zero, List.getElem?_cons_succ]; exact rfl
               · exact rfl
               simp only [Act.put, List.setIfInBounds_toArray, List.set_cons_zero, List.set_cons_succ])
            | (refine' hold_want ?_ ?_ (fun J hJ => ?_)
               rotate_left 1
               · simp only [List.getElem?_toArray, List.getElem?_cons_zero, List.getElem?_cons_succ]; exact rfl
               · exact rfl
               first
               | (refine K.quiet_load_core _ rfl w.heap.size 0 _ rfl (fun w' ⟨L, hL⟩ => HXx.out _ (Hb10.out.trans ((hL ▸ L.ok : Below w10.heap.size w10 w').mono Hb10.out.size))) ?_; refine hJ _ ?_; clear hJ J; try simp only [Act.put, List.setIfInBounds_toArray, List.set_cons_zero, List.set_cons_succ])
               | (refine quiet_load_val _ rfl w9.heap.size 0 _ rfl (fun w' ⟨L, hL⟩ => (H10.out _ (hL ▸ L.ok : Below w10.heap.size w10 w')).1) ?_; refine hJ _ ?_; clear hJ J; try simp only [Act.put, List.setIfInBounds_toArray, List.set_cons_zero, List.set_cons_succ])
               | (refine quiet_conv _ rfl _ (.string tf) rfl (fun w' ⟨L, hL⟩ => Hs0.out w' (hL ▸ L.ok : Below w10.heap.size w10 w')) ?_; refine hJ _ ?_; clear hJ J; try simp only [Act.put, List.setIfInBounds_toArray, List.set_cons_zero, List.set_cons_succ])
               | (refine quiet_extract _ _ rfl _ _ rfl rfl ?_; refine hJ _ ?_; clear hJ J; try simp only [Act.put, List.setIfInBounds_toArray, List.set_cons_zero, List.set_cons_succ])
               | (go_big_quiet_op; refine hJ _ ?_; clear hJ J; try simp only [Act.put, List.setIfInBounds_toArray, List.set_cons_zero, List.set_cons_succ])))
        refine' hold_sole_skip ?_ ?_ ?_
        rotate_left 1
        · simp only [List.getElem?_toArray, List.getElem?_cons_zero, List.getElem?_cons_succ]; exact rfl
        · exact rfl
        try simp only [Act.put, List.setIfInBounds_toArray, List.set_cons_zero, List.set_cons_succ]
        refine' hold_sole_skip ?_ ?_ ?_
        rotate_left 1
        · simp only [List.getElem?_toArray, List.getElem?_cons_zero, List.getElem?_cons_succ]; exact rfl
        · exact rfl
        try simp only [Act.put, List.setIfInBounds_toArray, List.set_cons_zero, List.set_cons_succ]
        repeat (first
            | (refine' hold_skip ?_ ?_ ?_
               rotate_left 1
               · simp only [List.getElem?_toArray, List.getElem?_cons_zero, List.getElem?_cons_succ]; exact rfl
               · exact rfl
               simp only [Act.put, List.setIfInBounds_toArray, List.set_cons_zero, List.set_cons_succ])
            | (refine' hold_want ?_ ?_ (fun J hJ => ?_)
               rotate_left 1
               · simp only [List.getElem?_toArray, List.getElem?_cons_zero, List.getElem?_cons_succ]; exact rfl
               · exact rfl
               first
               | (refine K.quiet_load_core _ rfl w.heap.size 0 _ rfl (fun w' ⟨L, hL⟩ => HXx.out _ (Hb10.out.trans ((hL ▸ L.ok : Below w10.heap.size w10 w').mono Hb10.out.size))) ?_; refine hJ _ ?_; clear hJ J; try simp only [Act.put, List.setIfInBounds_toArray, List.set_cons_zero, List.set_cons_succ])
               | (refine quiet_load_val _ rfl w9.heap.size 0 _ rfl (fun w' ⟨L, hL⟩ => (H10.out _ (hL ▸ L.ok : Below w10.heap.size w10 w')).1) ?_; refine hJ _ ?_; clear hJ J; try simp only [Act.put, List.setIfInBounds_toArray, List.set_cons_zero, List.set_cons_succ])
               | (refine quiet_conv _ rfl _ (.string tf) rfl (fun w' ⟨L, hL⟩ => Hs0.out w' (hL ▸ L.ok : Below w10.heap.size w10 w')) ?_; refine hJ _ ?_; clear hJ J; try simp only [Act.put, List.setIfInBounds_toArray, List.set_cons_zero, List.set_cons_succ])
               | (refine quiet_extract _ _ rfl _ _ rfl rfl ?_; refine hJ _ ?_; clear hJ J; try simp only [Act.put, List.setIfInBounds_toArray, List.set_cons_zero, List.set_cons_succ])
               | (go_big_quiet_op; refine hJ _ ?_; clear hJ J; try simp only [Act.put, List.setIfInBounds_toArray, List.set_cons_zero, List.set_cons_succ])))
        refine hold_done ?_
        refine hMet _ _ (Met.intro (hR _ _ ?_))
        exact ⟨_, _, _, _, _, _, _, _, _, _, _, _, _, _, _, _, _, _, _, _, _, _, ⟨rfl, hBd⟩, rfl⟩

      · refine wp_region_hold (fun w' => Below w10.heap.size w10 w') (.plain 0 (.plain 1 (.plain 2 (.plain 3 (.plain 4 (.sole 5 (.plain 6 (.plain 7 (.plain 9 (.sole 8 (.plain 10 (.plain 11 (.plain 12 (.plain 13 (.plain 16 (.plain 17 (.sole 14 (.sole 15 (.plain 18 (.plain 19 (.plain 20 (.plain 21 .done)))))))))))))))))))))) (by rw [← hwd]; exact hBd) (by kernel_rfl) (by kernel_rfl) (fun c a d v w h => by cases d <;> exact h) ?_
        rw [← hwd]
        clear hwd
        repeat (first
            | (refine' hold_skip ?_ ?_ ?_
               rotate_left 1
               · simp only [List.getElem?_toArray, List.getElem?_cons_zero, List.getElem?_cons_succ]; exact rfl
               · exact rfl
               simp only [Act.put, List.setIfInBounds_toArray, List.set_cons_zero, List.set_cons_succ])
            | (refine' hold_want ?_ ?_ (fun J hJ => ?_)
               rotate_left 1
               · simp only [List.getElem?_toArray, List.getElem?_cons_zero, List.getElem?_cons_succ]; exact rfl
               · exact rfl
               first
               | (refine K.quiet_load_core _ rfl w.heap.size 0 _ rfl (fun w' ⟨L, hL⟩ => HXx.out _ (Hb10.out.trans ((hL ▸ L.ok : Below w10.heap.size w10 w').mono Hb10.out.size))) ?_; refine hJ _ ?_; clear hJ J; try simp only [Act.put, List.setIfInBounds_toArray, List.set_cons_zero, List.set_cons_succ])
               | (refine quiet_load_val _ rfl w9.heap.size 0 _ rfl (fun w' ⟨L, hL⟩ => (H10.out _ (hL ▸ L.ok : Below w10.heap.size w10 w')).1) ?_; refine hJ _ ?_; clear hJ J; try simp only [Act.put, List.setIfInBounds_toArray, List.set_cons_zero, List.set_cons_succ])
               | (refine quiet_conv _ rfl _ (.string tf) rfl (fun w' ⟨L, hL⟩ => Hs0.out w' (hL ▸ L.ok : Below w10.heap.size w10 w')) ?_; refine hJ _ ?_; clear hJ J; try simp only [Act.put, List.setIfInBounds_toArray, List.set_cons_zero, List.set_cons_succ])
               | (refine quiet_extract _ _ rfl _ _ rfl rfl ?_; refine hJ _ ?_; clear hJ J; try simp only [Act.put, List.setIfInBounds_toArray, List.set_cons_zero, List.set_cons_succ])
               | (go_big_quiet_op; refine hJ _ ?_; clear hJ J; try simp only [Act.put, List.setIfInBounds_toArray, List.set_cons_zero, List.set_cons_succ])))
        refine' hold_sole_skip ?_ ?_ ?_
        rotate_left 1
        · simp only [List.getElem?_toArray, List.getElem?_cons_zero, List.getElem?_cons_succ]; exact rfl
        · exact rfl
        try simp only [Act.put, List.setIfInBounds_toArray, List.set_cons_zero, List.set_cons_succ]
        repeat (first
            | (refine' hold_skip ?_ ?_ ?_
               rotate_left 1
               · simp only [List.getElem?_toArray, List.getElem?_cons_zero, List.getElem?_cons_succ]; exact rfl
               · exact rfl
               simp only [Act.put, List.setIfInBounds_toArray, List.set_cons_zero, List.set_cons_succ])
            | (refine' hold_want ?_ ?_ (fun J hJ => ?_)
               rotate_left 1
               · simp only [List.getElem?_toArray, List.getElem?_cons_zero, List.getElem?_cons_succ]; exact rfl
               · exact rfl
               first
               | (refine K.quiet_load_core _ rfl w.heap.size 0 _ rfl (fun w' ⟨L, hL⟩ => HXx.out _ (Hb10.out.trans ((hL ▸ L.ok : Below w10.heap.size w10 w').mono Hb10.out.size))) ?_; refine hJ _ ?_; clear hJ J; try simp only [Act.put, List.setIfInBounds_toArray, List.set_cons_zero, List.set_cons_succ])
               | (refine quiet_load_val _ rfl w9.heap.size 0 _ rfl (fun w' ⟨L, hL⟩ => (H10.out _ (hL ▸ L.ok : Below w10.heap.size w10 w')).1) ?_; refine hJ _ ?_; clear hJ J; try simp only [Act.put, List.setIfInBounds_toArray, List.set_cons_zero, List.set_cons_succ])
               | (refine quiet_conv _ rfl _ (.string tf) rfl (fun w' ⟨L, hL⟩ => Hs0.out w' (hL ▸ L.ok : Below w10.heap.size w10 w')) ?_; refine hJ _ ?_; clear hJ J; try simp only [Act.put, List.setIfInBounds_toArray, List.set_cons_zero, List.set_cons_succ])
               | (refine quiet_extract _ _ rfl _ _ rfl rfl ?_; refine hJ _ ?_; clear hJ J; try simp only [Act.put, List.setIfInBounds_toArray, List.set_cons_zero, List.set_cons_succ])
               | (go_big_quiet_op; refine hJ _ ?_; clear hJ J; try simp only [Act.put, List.setIfInBounds_toArray, List.set_cons_zero, List.set_cons_succ])))
        refine' hold_sole_skip ?_ ?_ ?_
        rotate_left 1
        · simp only [List.getElem?_toArray, List.getElem?_cons_zero, List.getElem?_cons_succ]; exact rfl
        · exact rfl
        try simp only [Act.put, List.setIfInBounds_toArray, List.set_cons_zero, List.set_cons_succ]
        repeat (first
            | (refine' hold_skip ?_ ?_ ?_
               rotate_left 1
               · simp only [List.getElem?_toArray, List.getElem?_cons_zero, List.getElem?_cons_succ]; exact rfl
               · exact rfl
               simp only [Act.put, List.setIfInBounds_toArray, List.set_cons_zero, List.set_cons_succ])
            | (refine' hold_want ?_ ?_ (fun J hJ => ?_)
               rotate_left 1
               · simp only [List.getElem?_toArray, List.getElem?_cons_zero, List.getElem?_cons_succ]; exact rfl
               · exact rfl
               first
               | (refine K.quiet_load_core _ rfl w.heap.size 0 _ rfl (fun w' ⟨L, hL⟩ => HXx.out _ (Hb10.out.trans ((hL ▸ L.ok : Below w10.heap.size w10 w').mono Hb10.out.size))) ?_; refine hJ _ ?_; clear hJ J; try simp only [Act.put, List.setIfInBounds_toArray, List.set_cons_zero, List.set_cons_succ])
               | (refine quiet_load_val _ rfl w9.heap.size 0 _ rfl (fun w' ⟨L, hL⟩ => (H10.out _ (hL ▸ L.ok : Below w10.heap.size w10 w')).1) ?_; refine hJ _ ?_; clear hJ J; try simp only [Act.put, List.setIfInBounds_toArray, List.set_cons_zero, List.set_cons_succ])
               | (refine quiet_conv _ rfl _ (.string tf) rfl (fun w' ⟨L, hL⟩ => Hs0.out w' (hL ▸ L.ok : Below w10.heap.size w10 w')) ?_; refine hJ _ ?_; clear hJ J; try simp only [Act.put, List.setIfInBounds_toArray, List.set_cons_zero, List.set_cons_succ])
               | (refine quiet_extract _ _ rfl _ _ rfl rfl ?_; refine hJ _ ?_; clear hJ J; try simp only [Act.put, List.setIfInBounds_toArray, List.set_cons_zero, List.set_cons_succ])
               | (go_big_quiet_op; refine hJ _ ?_; clear hJ J; try simp only [Act.put, List.setIfInBounds_toArray, List.set_cons_zero, List.set_cons_succ])))
        refine' hold_sole_skip ?_ ?_ ?_
        rotate_left 1
        · simp only [List.getElem?_toArray, List.getElem?_cons_zero, List.getElem?_cons_succ]; exact rfl
        · exact rfl
        try simp only [Act.put, List.setIfInBounds_toArray, List.set_cons_zero, List.set_cons_succ]
        refine' hold_sole_skip ?_ ?_ ?_
        rotate_left 1
        · simp only [List.getElem?_toArray, List.getElem?_cons_zero, List.getElem?_cons_succ]; exact rfl
        · exact rfl
        try simp only [Act.put, List.setIfInBounds_toArray, List.set_cons_zero, List.set_cons_succ]
        repeat (first
            | (refine' hold_skip ?_ ?_ ?_
               rotate_left 1
               · simp only [List.getElem?_toArray, List.getElem?_cons_zero, List.getElem?_cons_succ]; exact rfl
               · exact rfl
               simp only [Act.put, List.setIfInBounds_toArray, List.set_cons_zero, List.set_cons_succ])
            | (refine' hold_want ?_ ?_ (fun J hJ => ?_)
               rotate_left 1
               · simp only [List.getElem?_toArray, List.getElem?_cons_zero, List.getElem?_cons_succ]; exact rfl
               · exact rfl
               first
               | (refine K.quiet_load_core _ rfl w.heap.size 0 _ rfl (fun w' ⟨L, hL⟩ => HXx.out _ (Hb10.out.trans ((hL ▸ L.ok : Below w10.heap.size w10 w').mono Hb10.out.size))) ?_; refine hJ _ ?_; clear hJ J; try simp only [Act.put, List.setIfInBounds_toArray, List.set_cons_zero, List.set_cons_succ])
               | (refine quiet_load_val _ rfl w9.heap.size 0 _ rfl (fun w' ⟨L, hL⟩ => (H10.out _ (hL ▸ L.ok : Below w10.heap.size w10 w')).1) ?_; refine hJ _ ?_; clear hJ J; try simp only [Act.put, List.setIfInBounds_toArray, List.set_cons_zero, List.set_cons_succ])
               | (refine quiet_conv _ rfl _ (.string tf) rfl (fun w' ⟨L, hL⟩ => Hs0.out w' (hL ▸ L.ok : Below w10.heap.size w10 w')) ?_; refine hJ _ ?_; clear hJ J; try simp only [Act.put, List.setIfInBounds_toArray, List.set_cons_zero, List.set_cons_succ])
               | (refine quiet_extract _ _ rfl _ _ rfl rfl ?_; refine hJ _ ?_; clear hJ J; try simp only [Act.put, List.setIfInBounds_toArray, List.set_cons_zero, List.set_cons_succ])
               | (go_big_quiet_op; refine hJ _ ?_; clear hJ J; try simp only [Act.put, List.setIfInBounds_toArray, List.set_cons_zero, List.set_cons_succ])))
        refine hold_done ?_
        refine hMet _ _ (Met.intro (hR _ _ ?_))
        exact ⟨_, _, _, _, _, _, _, _, _, _, _, _, _, _, _, _, _, _, _, _, _, _, ⟨rfl, hBd⟩, rfl⟩

  case rest =>
    obtain ⟨rfl, hBc⟩ := hcut
    have Hfin := Lib.hid (HbW.out.trans ((Hb10.out.trans (hBc.mono Hb10.out.size)).mono HbW.out.size))
    clear hBc
    go_wp2_with fail
    go_ret
    exact ⟨rfl, Hfin.out⟩

end V
end Go.Proofs.Ytklmomgccmekkaa
