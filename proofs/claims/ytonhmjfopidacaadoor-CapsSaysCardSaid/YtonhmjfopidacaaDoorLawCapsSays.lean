/- The law CapsSays, walked: any core, any value, any place, any spans. -/
import Derived.Test.YtonhmjfopidacaaDoorRefCapsAll
import Derived.Test.YtonhmjfopidacaaDoorRefCores
import Derived.Test.YtonhmjfopidacaaDoorRefVals
import Derived.Test.YtonhmjfopidacaaDoorValWS
import Derived.Test.YtonhmjfopidacaaDoorCoreBig
import Derived.Test.YtonhmjfopidacaaDoorHoldKit
namespace Go.Proofs.YtonhmjfopidacaaDoor
namespace V
set_option maxRecDepth 100000
open Go.RowKit
theorem wrap_fits (z : Int) : fits64 (wrap64 z) := by
  show (decide (-9223372036854775808 ≤ wrap64 z) && decide (wrap64 z ≤ 9223372036854775807)) = true
  rw [decide_eq_true (by unfold wrap64; omega), decide_eq_true (by unfold wrap64; omega)]; rfl
theorem spW_fits (q : Sp) : fits64 (spW q).1 ∧ fits64 (spW q).2 := by
  cases q with
  | none => exact ⟨rfl, rfl⟩
  | some q => exact ⟨wrap_fits _, wrap_fits _⟩
theorem ofSp_fits (c : K.Cr) (v : Vl) (a n : Int) : ∀ q ∈ ofSp c v a n, fits64 q.1 ∧ fits64 q.2 := by
  intro q hq
  unfold ofSp at hq
  split at hq
  · unfold spansL at hq
    rcases List.mem_cons.1 hq with rfl | hq
    · exact ⟨wrap_fits _, wrap_fits _⟩
    · obtain ⟨i, _, rfl⟩ := List.mem_map.1 hq
      exact spW_fits _
  · cases hq
theorem ofSp_len (c : K.Cr) (v : Vl) (a n : Int) : (ofSp c v a n).length ≤ 33 := by
  unfold ofSp okOf
  split
  · rename_i h
    rw [Bool.and_eq_true, decide_eq_true_eq] at h
    rw [spansL_len]; omega
  · exact Nat.zero_le _
set_option maxHeartbeats 32000000 in
theorem capsSays_walk (x : K.Cr) (cs : List Value) (v : Vl) (ds : List Value) (at_ : Int) (_wa : fits64 at_) (gn : Int) (_wn : fits64 gn) (ra : Option Addr) (rn rcap : Nat) (rl : Sl) (w : World) (hx : K.Cr.at w x cs) (hv : Vl.at w v ds) (hrs : rn = rl.length ∧ SpAt w ra rcap rl ∧ ∀ q ∈ rl, fits64 q.1 ∧ fits64 q.2) (hP : PowAt w) :
    Calls Tryd.prog 4 #[.agg cs.toArray, .agg ds.toArray, .int .i64 at_, .int .i64 gn, .slice ra rn rcap] w fun e w' => e = .returned (.bool true) ∧ Below w.heap.size w w' := by
  obtain ⟨hrn, hr, hfr⟩ := hrs
  obtain ⟨W, hW⟩ : ∃ W, W = (w.alloc (.cells cs.toArray 28)).alloc (.cells ds.toArray 39) := ⟨_, rfl⟩
  have hbW : Below w.heap.size w W := by rw [hW]; exact (((Below.refl _ _).alloc (Nat.le_refl _) _).alloc (by simp) _)
  have hsW : W.heap.size = w.heap.size + 2 := by rw [hW]; simp
  have hxx : K.Core7 W w.heap.size 0 cs := by
    have h := World.alloc_heap_new w (.cells cs.toArray 28)
    rw [hW]
    exact core7_below (K.core7_in h (K.at_len hx)) (B := w.heap.size + 1) (by omega) ((Below.refl _ _).alloc (by first | (simp; done) | (simp; omega)) _)
  have hxv : Val3 W (w.heap.size + 1) 0 ds := by
    have h := World.alloc_heap_new (w.alloc (.cells cs.toArray 28)) (.cells ds.toArray 39)
    rw [World.size_alloc] at h
    rw [hW]
    exact (val3_in h (at_len hv))
  have HXx : Hid (∀ w', Below W.heap.size W w' → K.Core7 w' w.heap.size 0 cs) := Lib.hid fun w' h => core7_below hxx (by omega) h
  have HAx : Hid (∀ w', Below W.heap.size W w' → K.Cr.at w' x cs) := Lib.hid fun w' h => K.Cr.at_below (hbW.trans (h.mono hbW.size)) (Nat.le_refl _) _ _ hx
  have HXv : Hid (∀ w', Below W.heap.size W w' → Val3 w' (w.heap.size + 1) 0 ds) := Lib.hid fun w' h => Val3.below hxv (by omega) h
  have HAv : Hid (∀ w', Below W.heap.size W w' → Vl.at w' v ds) := Lib.hid fun w' h => Vl.at_below (hbW.trans (h.mono hbW.size)) (Nat.le_refl _) _ _ hv
  have HbW := Lib.hid hbW
  have HsW := Lib.hid hsW
  clear hbW hsW hxx hxv
  have HAr : Hid (∀ w', Below W.heap.size W w' → SpAt w' ra rcap rl) := Lib.hid fun w' h => hr.below (HbW.out.trans (h.mono HbW.out.size))
  have hmx : (rn : Int) ≤ 9223372036854775807 := by have := hr.1; unfold maxLen at this; omega
  have HN := Lib.hid (And.intro hrn hfr)
  have HP := Lib.hid hP
  obtain ⟨kx, sx, nx, ax, lenx, capx, rfl⟩ := K.at_lit hx
  obtain ⟨kv, zv, av, lenv, capv, rfl⟩ := at_lit hv
  have Hb0 := Lib.hid (Below.refl W.heap.size W)
  clear hx hv hr hrn hfr hP
  go_enter Tryd.func4, Tryd.ntmps4
  go_upto_region 1 with fail
  rw [← hW]
  clear hW
  go_wp2_with fail
  refine (awake12_any _ (pow_below HP.out (HbW.out.trans (Hb0.out.mono HbW.out.size)))).mono ?_
  rintro e w1 ⟨rfl, hb'⟩
  have Hb1 := Lib.hid (Hb0.out.trans (hb'.mono Hb0.out.size))
  clear hb'
  go_wp2_with (first | (refine K.wpList_load_core rfl _ rfl w.heap.size 0 _ rfl (HXx.out _ Hb1.out) ?_) | fail)
  refine (K.big_any 100 x _ _ (by decide) (HAx.out _ Hb1.out)).mono ?_
  rintro e w2 ⟨rfl, hb'⟩
  have Hb2 := Lib.hid (Hb1.out.trans (hb'.mono Hb1.out.size))
  clear hb'
  obtain ⟨bx, hbx⟩ : ∃ bx, bx = K.bigN 100 x := ⟨_, rfl⟩
  rw [← hbx]
  have Hbx := Lib.hid hbx
  clear hbx
  cases bx
  case true =>
    go_wp2_with fail
    go_ret
    exact ⟨rfl, HbW.out.trans (Hb2.out.mono HbW.out.size)⟩
  have Hslc := Lib.hid (K.slim_of_big 100 x Hbx.out.symm)
  go_wp2_with (first | (refine wpList_load_val_want rfl _ rfl (w.heap.size + 1) 0 _ rfl (HXv.out _ Hb2.out) ?_) | fail)
  refine (wide_any 40 v _ _ (by decide) (HAv.out _ Hb2.out)).mono ?_
  rintro e w3 ⟨rfl, hb'⟩
  have Hb4 := Lib.hid (Hb2.out.trans (hb'.mono Hb2.out.size))
  clear hb'
  obtain ⟨bw, hbw⟩ : ∃ bw, bw = wideN 40 v := ⟨_, rfl⟩
  rw [← hbw]
  have Hbw := Lib.hid hbw
  clear hbw
  cases bw
  case true =>
    go_wp2_with fail
    go_ret
    exact ⟨rfl, HbW.out.trans (Hb4.out.mono HbW.out.size)⟩
  have Hslv := Lib.hid (slim_of_wide 40 v Hbw.out.symm)
  by_cases c2 : 40 < rn
  · have c2_0 : decide ((rn : Int) > 40) = true := by simp; omega
    have c2_1 : decide ((40 : Int) < rn) = true := by simp; omega
    have c2_2 : decide (40 < rn) = true := by simp; omega
    clear c2
    go_wp2_with fail
    go_ret
    exact ⟨rfl, HbW.out.trans (Hb4.out.mono HbW.out.size)⟩
  have c2_0 : decide ((rn : Int) > 40) = false := by simp; omega
  have c2_1 : decide ((40 : Int) < rn) = false := by simp; omega
  have c2_2 : decide (40 < rn) = false := by simp; omega
  have C2H := Lib.hid c2
  clear c2
  obtain ⟨E, hE⟩ : ∃ E, E = ofErr x v at_ gn := ⟨_, rfl⟩
  obtain ⟨Lo, hLo⟩ : ∃ Lo, Lo = ofSp x v at_ gn := ⟨_, rfl⟩
  obtain ⟨no, hno⟩ : ∃ no, Lo.length = no := ⟨_, rfl⟩
  have HE := Lib.hid (And.intro hE hLo)
  have HNo := Lib.hid (And.intro hno (And.intro (show Lo.length ≤ 33 by rw [hLo]; exact ofSp_len _ _ _ _) (show ∀ q ∈ Lo, fits64 q.1 ∧ fits64 q.2 by rw [hLo]; exact ofSp_fits _ _ _ _)))
  have hnoI : (no : Int) ≤ 9223372036854775807 := by have := HNo.out; omega
  clear hE hLo hno
  go_wp2_with (first
    | (refine K.wpList_load_core rfl _ rfl w.heap.size 0 _ rfl (HXx.out _ Hb4.out) ?_)
    | (refine wpList_load_val rfl _ rfl (w.heap.size + 1) 0 _ rfl (HXv.out _ Hb4.out) ?_)
    | fail)
  clear c2_0 c2_1 c2_2
  refine ((of_any (HAx.out _ Hb4.out) (HAv.out _ Hb4.out) at_ gn).mono fun _ _ => SpPost.n (n := no) (by rw [← HE.out.2]; exact HNo.out.1)).mono ?_
  rintro e w5 ⟨pl, cl, rfl, hspl, hb'⟩
  rw [← HE.out.1]
  rw [← HE.out.2] at hspl
  have Hb5 := Lib.hid (Hb4.out.trans (hb'.mono Hb4.out.size))
  have Hl5 := Lib.hid hspl
  clear hb' hspl
  go_upto_region 6 with fail
  go_cut [13, 14] from 36 to 45 (fun v13 v14 wx => (∃ a c, v13 = .slice a no c ∧ SpAt wx a c Lo) ∧ v14 = .int .i64 E ∧ Below w5.heap.size w5 wx)
  case first =>
    rename_i J0 K' hR hMet
    obtain ⟨wd, hwd⟩ : ∃ wd, wd = w5.drew := ⟨_, rfl⟩
    have hBd : Below w5.heap.size w5 wd := by rw [hwd]; exact (Below.refl _ _).drew
    refine wp_region_hold (fun w' => Below w5.heap.size w5 w') (.plain 0 (.plain 2 (.plain 4 (.plain 5 (.sole 1 (.sole 3 (.sole 6 (.plain 7 (.plain 8 (.plain 9 (.plain 10 (.plain 11 .done)))))))))))) (by rw [← hwd]; exact hBd) (by kernel_rfl) (by kernel_rfl) (fun c a d v w h => by cases d <;> exact h) ?_
    rw [← hwd]
    clear hwd
    have hne : Nonempty (HeldW (fun w' => Below w5.heap.size w5 w')) := HeldW.nonempty hBd
    repeat (first
        | (refine' hold_skip ?_ ?_ ?_
           rotate_left 1
           · simp only [List.getElem?_toArray, List.getElem?_cons_zero, List.getElem?_cons_succ]; exact rfl
           · exact rfl
           simp only [Act.put, List.setIfInBounds_toArray, List.set_cons_zero, List.set_cons_succ])
        | (refine' hold_want ?_ ?_ (fun J hJ => ?_)
           rotate_left 1
           · simp only [List.getElem?_toArray, List.getElem?_cons_zero, List.getElem?_cons_succ]; exact rfl
           · exact rfl
           first
           | (refine K.quiet_load_core _ rfl w.heap.size 0 [.int .i64 kx, .int .u64 (word sx 0), .int .u64 (word sx 1), .int .u64 (word sx 2), .int .u64 (word sx 3), .int .i64 nx, .slice ax lenx capx] rfl (fun w' ⟨L, hL⟩ => HXx.out _ (Hb5.out.trans ((hL ▸ L.ok : Below w5.heap.size w5 w').mono Hb5.out.size))) ?_; refine hJ _ ?_; clear hJ J; try simp only [Act.put, List.setIfInBounds_toArray, List.set_cons_zero, List.set_cons_succ])
           | (refine quiet_load_val _ rfl (w.heap.size + 1) 0 [.int .i64 kv, .int .u8 zv, .slice av lenv capv] rfl (fun w' ⟨L, hL⟩ => HXv.out _ (Hb5.out.trans ((hL ▸ L.ok : Below w5.heap.size w5 w').mono Hb5.out.size))) ?_; refine hJ _ ?_; clear hJ J; try simp only [Act.put, List.setIfInBounds_toArray, List.set_cons_zero, List.set_cons_succ])
           | (refine quiet_extract _ _ rfl _ _ rfl rfl ?_; refine hJ _ ?_; clear hJ J; try simp only [Act.put, List.setIfInBounds_toArray, List.set_cons_zero, List.set_cons_succ])
           | (go_big_quiet_op; refine hJ _ ?_; clear hJ J; try simp only [Act.put, List.setIfInBounds_toArray, List.set_cons_zero, List.set_cons_succ])))
    refine' hold_sole ?_ ?_ (fun J hJ => ?_)
    rotate_left 1
    · simp only [List.getElem?_toArray, List.getElem?_cons_zero, List.getElem?_cons_succ]; exact rfl
    · exact rfl
    go_simp
    refine (K.lawCore_any 100 x _ _ Hslc.out (HAx.out _ (Hb5.out.trans (hBd.mono Hb5.out.size)))).mono ?_
    rintro e wc ⟨rs, rfl, hin, hbc⟩
    have hBc : Below w5.heap.size w5 wc := hBd.trans (hbc.mono hBd.size)
    have hrc := hin.ref
    refine hJ _ _ hBc ?_
    clear hJ J hbc hin
    try simp only [Act.put, List.setIfInBounds_toArray, List.set_cons_zero, List.set_cons_succ]
    refine' hold_sole ?_ ?_ (fun J hJ => ?_)
    rotate_left 1
    · simp only [List.getElem?_toArray, List.getElem?_cons_zero, List.getElem?_cons_succ]; exact rfl
    · exact rfl
    go_simp
    refine (lawVal_any 40 v _ _ Hslv.out (HAv.out _ (Hb5.out.trans (hBc.mono Hb5.out.size)))).mono ?_
    rintro e wv ⟨vs, rfl, hiv, hbv⟩
    have hBv : Below w5.heap.size w5 wv := hBc.trans (hbv.mono hBc.size)
    have hrv := hiv.ref
    have hrc2 := K.Cr.ref_below hbv hrc
    refine hJ _ _ hBv ?_
    clear hJ J hbv hiv
    try simp only [Act.put, List.setIfInBounds_toArray, List.set_cons_zero, List.set_cons_succ]
    refine' hold_sole ?_ ?_ (fun J hJ => ?_)
    rotate_left 1
    · simp only [List.getElem?_toArray, List.getElem?_cons_zero, List.getElem?_cons_succ]; exact rfl
    · exact rfl
    go_simp
    refine ((refSpans_any hrc2 hrv at_ gn).mono fun _ _ => SpPost.n (n := no) (by rw [← HE.out.2]; exact HNo.out.1)).mono ?_
    rintro e w6 ⟨pm, cm, rfl, hspm, hbm⟩
    rw [← HE.out.1]
    rw [← HE.out.2] at hspm
    have hBm : Below w5.heap.size w5 w6 := hBv.trans (hbm.mono hBv.size)
    refine hJ _ _ hBm ?_
    clear hJ J hbm
    try simp only [Act.put, List.setIfInBounds_toArray, List.set_cons_zero, List.set_cons_succ]
    repeat (first
        | (refine' hold_skip ?_ ?_ ?_
           rotate_left 1
           · simp only [List.getElem?_toArray, List.getElem?_cons_zero, List.getElem?_cons_succ]; exact rfl
           · exact rfl
           simp only [Act.put, List.setIfInBounds_toArray, List.set_cons_zero, List.set_cons_succ])
        | (refine' hold_want ?_ ?_ (fun J hJ => ?_)
           rotate_left 1
           · simp only [List.getElem?_toArray, List.getElem?_cons_zero, List.getElem?_cons_succ]; exact rfl
           · exact rfl
           first
           | (refine K.quiet_load_core _ rfl w.heap.size 0 [.int .i64 kx, .int .u64 (word sx 0), .int .u64 (word sx 1), .int .u64 (word sx 2), .int .u64 (word sx 3), .int .i64 nx, .slice ax lenx capx] rfl (fun w' ⟨L, hL⟩ => HXx.out _ (Hb5.out.trans ((hL ▸ L.ok : Below w5.heap.size w5 w').mono Hb5.out.size))) ?_; refine hJ _ ?_; clear hJ J; try simp only [Act.put, List.setIfInBounds_toArray, List.set_cons_zero, List.set_cons_succ])
           | (refine quiet_load_val _ rfl (w.heap.size + 1) 0 [.int .i64 kv, .int .u8 zv, .slice av lenv capv] rfl (fun w' ⟨L, hL⟩ => HXv.out _ (Hb5.out.trans ((hL ▸ L.ok : Below w5.heap.size w5 w').mono Hb5.out.size))) ?_; refine hJ _ ?_; clear hJ J; try simp only [Act.put, List.setIfInBounds_toArray, List.set_cons_zero, List.set_cons_succ])
           | (refine quiet_extract _ _ rfl _ _ rfl rfl ?_; refine hJ _ ?_; clear hJ J; try simp only [Act.put, List.setIfInBounds_toArray, List.set_cons_zero, List.set_cons_succ])
           | (go_big_quiet_op; refine hJ _ ?_; clear hJ J; try simp only [Act.put, List.setIfInBounds_toArray, List.set_cons_zero, List.set_cons_succ])))
    refine hold_done ?_
    refine hMet _ _ (Met.intro (hR _ _ ?_))
    exact ⟨_, _, _, _, _, _, _, _, _, _, _, _, ⟨⟨pm, cm, rfl, hspm⟩, rfl, hBm⟩, rfl⟩

  case rest =>
  obtain ⟨w6, rfl⟩ : ∃ w6, w6 = wc := ⟨_, rfl⟩
  obtain ⟨⟨pm, cm, rfl, hspm⟩, rfl, hb6⟩ := hcut
  have Hm6 := Lib.hid hspm
  have Hb6 := Lib.hid hb6
  have Hw6 := Lib.hid (Hb5.out.trans (hb6.mono Hb5.out.size))
  clear hspm hb6
  go_wp2_with fail
  refine (spans_row (Hl5.out.below Hb6.out) (by have := HNo.out; omega) no HNo.out.1).mono ?_
  rintro e w7 ⟨a7, c7, rfl, hs7, hb'⟩
  have H7 := Lib.hid (And.intro hs7 hb')
  clear hs7 hb'
  go_wp2_with fail
  have hsame := same_rows H7.out.1 (Hm6.out.below H7.out.2) (by have := HNo.out; omega)
  rw [HNo.out.1] at hsame
  refine hsame.mono ?_
  clear hsame
  rintro e w8 ⟨rfl, hb'⟩
  have H8 := Lib.hid (H7.out.2.trans (hb'.mono H7.out.2.size))
  have H8w := Lib.hid (Hw6.out.trans (H8.out.mono Hw6.out.size))
  clear hb'
  go_wp2_with fail
  have htx := text_any (l := rl) (by have := HN.out; have := C2H.out; omega) HN.out.2 (HAr.out _ H8w.out) (pow_below HP.out (HbW.out.trans (H8w.out.mono HbW.out.size)))
  rw [← HN.out.1] at htx
  refine htx.mono ?_
  clear htx
  rintro e w9 ⟨⟨t1, rfl, ht1⟩, hb'⟩
  have Ht1 := Lib.hid ht1
  have H9w := Lib.hid (H8w.out.trans (hb'.mono H8w.out.size))
  have H9 := Lib.hid (H8.out.trans (hb'.mono H8.out.size))
  clear ht1 hb'
  go_wp2_with fail
  refine (spans_row (HAr.out _ H9w.out) (by have := HN.out; have := C2H.out; omega) rn HN.out.1.symm).mono ?_
  rintro e w10 ⟨a10, c10, rfl, hs10, hb'⟩
  have Hs10 := Lib.hid hs10
  have H10w := Lib.hid (H9w.out.trans (hb'.mono H9w.out.size))
  have H10 := Lib.hid (H9.out.trans (hb'.mono H9.out.size))
  clear hs10 hb'
  go_wp2_with fail
  have hst := spansText_any (l := rl) (by have := HN.out; have := C2H.out; omega) HN.out.2 Hs10.out
  rw [← HN.out.1] at hst
  refine hst.mono ?_
  clear hst
  rintro e w11 ⟨⟨t2, rfl, ht2⟩, hb'⟩
  obtain rfl : t2 = t1 := natsW_inj (ht2.trans Ht1.out.symm)
  have H11w := Lib.hid (H10w.out.trans (hb'.mono H10w.out.size))
  have H11 := Lib.hid (H10.out.trans (hb'.mono H10.out.size))
  clear ht2 hb'
  go_wp2_with fail
  have htx := text_any (l := Lo) (by have := HNo.out; omega) HNo.out.2.2 (Hl5.out.below (Hb6.out.trans (H11.out.mono Hb6.out.size))) (pow_below HP.out (HbW.out.trans (H11w.out.mono HbW.out.size)))
  rw [HNo.out.1] at htx
  refine htx.mono ?_
  clear htx
  rintro e w12 ⟨⟨t3, rfl, ht3⟩, hb'⟩
  have Ht3 := Lib.hid ht3
  have H12w := Lib.hid (H11w.out.trans (hb'.mono H11w.out.size))
  have H12 := Lib.hid (H11.out.trans (hb'.mono H11.out.size))
  clear ht3 hb'
  go_wp2_with fail
  have hst := spansText_any (l := Lo) (by have := HNo.out; omega) HNo.out.2.2 (Hm6.out.below H12.out)
  rw [HNo.out.1] at hst
  refine hst.mono ?_
  clear hst
  rintro e w13 ⟨⟨t4, rfl, ht4⟩, hb'⟩
  obtain rfl : t4 = t3 := natsW_inj (ht4.trans Ht3.out.symm)
  have H13w := Lib.hid (H12w.out.trans (hb'.mono H12w.out.size))
  clear ht4 hb'
  go_wp2_with fail
  go_ret
  exact ⟨rfl, HbW.out.trans (H13w.out.mono HbW.out.size)⟩
end V
end Go.Proofs.YtonhmjfopidacaaDoor
